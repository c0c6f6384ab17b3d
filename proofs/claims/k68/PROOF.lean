import PyProof.Rows.All
import Wide.All
import OpenK.AllK
import Wide.FinOn
import Lean
import PyProof.EqAt
import PyProof.EqKinds
import PyProof.TupleCall
import PySem.Challenge.RW_skewbooks_k68_whole_parts_of_ledgers_as
set_option Elab.async false
set_option linter.all false
set_option maxRecDepth 100000
namespace L2
open PySem PySem.Spec PyProof.Rows
abbrev Key:=Sum (Option Int) Str
def uY:Key->Value->Bool
 | .inl none,v=>match v with | .none=>true | _=>false
 | .inl (some k),v=>Value.isInt k v
 | .inr x,v=>Value.isStrOf x v
def aeC (w:World):Key->Int
 | .inl none=>0xFCA86420
 | .inl (some k)=>hashInt k
 | .inr x=>hashStr w x
theorem cR:∀ {k:Key} {v:Value},uY k v=true->(∃ i t,k=Sum.inl (some i)/\v=Value.int i t)∨(∃ x t,k=Sum.inr x/\v=Value.str x t)∨(k=Sum.inl none/\v=Value.none)
 | .inl (some i),v,h=>by
   obtain ⟨t,e⟩:=Value.isInt_shape (k:=i) (v:=v) h
   exact .inl ⟨i,t,rfl,e⟩
 | .inl none,v,h=>by
   cases v with
   | none=>exact .inr (.inr ⟨rfl,rfl⟩)
   | _=>cases h
 | .inr x,v,h=>by
   obtain ⟨t,e⟩:=Value.isStrOf_shape (x:=x) (v:=v) h
   exact .inr (.inl ⟨x,t,rfl,e⟩)
theorem Kv (i:Int) (t:Tok):uY (.inl (some i)) (.int i t)=true:=by simp [uY,Value.isInt]
theorem Kw (x:Str) (t:Tok):uY (.inr x) (.str x t)=true:=by simp [uY,Value.isStrOf]
theorem Gk:uY (.inl none) .none=true:=rfl
theorem Xg (a b:Int):decide ((Sum.inl (some a):Key)=Sum.inl (some b))=(a == b):=by
 by_cases e:a=b
 . subst e; simp
 . have h:¬ (Sum.inl (some a):Key)=Sum.inl (some b):=fun q=>e (Option.some.inj (Sum.inl.inj q))
   rw [decide_eq_false h]
   exact (beq_eq_false_iff_ne.mpr e).symm
theorem Xh (a b:Str):decide ((Sum.inr a:Key)=Sum.inr b)=decide (a=b):=by
 by_cases e:a=b
 . subst e; simp
 . have h:¬ (Sum.inr a:Key)=Sum.inr b:=fun q=>e (Sum.inr.inj q)
   rw [decide_eq_false h,decide_eq_false e]
theorem Oi (a:Option Int) (b:Str):decide ((Sum.inl a:Key)=Sum.inr b)=false:=decide_eq_false (fun q=>nomatch q)
theorem Oj (a:Str) (b:Option Int):decide ((Sum.inr a:Key)=Sum.inl b)=false:=decide_eq_false (fun q=>nomatch q)
theorem Xi (a:Int):decide ((Sum.inl (some a):Key)=Sum.inl none)=false:=decide_eq_false (fun q=>nomatch (Sum.inl.inj q))
theorem Xj (a:Int):decide ((Sum.inl none:Key)=Sum.inl (some a))=false:=decide_eq_false (fun q=>nomatch (Sum.inl.inj q))
theorem Xk:decide ((Sum.inl none:Key)=Sum.inl none)=true:=decide_eq_true rfl
theorem Ky {prog:Program} {w:World} {A:Around} {E:Value->Shared->Prop} {s:Shared} {Q:Int->Shared->Prop} (h:Q 0xFCA86420 { s with toks:=s.toks+1 }):wpAny (model prog w) A (pyHash .none) Q E s:=by
 have hT:s.TypeIs .none "NoneType":=rfl
 unfold pyHash
 have hv:[Value.none].any Value.onHeap=false:=rfl
 refine wpAny_bind ?_
 rw [cRoomFor,if_neg (by rw [hv]; exact Bool.false_ne_true)]; refine wpAny_pure ?_
 refine wpAny_bind (wpAny_specialOf hT PySem.F.slot_NoneType_hash.lookup ?_)
 show wpAny _ _ (if (some (Value.builtin "NoneType.__hash__") == some Value.none)=true then _ else _) Q E s
 rw [if_neg (by decide)]
 refine wpAny_bind (wpAny_specialOf hT PySem.F.slot_NoneType_hash.lookup ?_)
 show wpAny _ _ (callSpecialIfBoundUnlessNone? .none "__hash__" _ >>= _) Q E s
 refine wpAny_bind (wpAny_callSpecialIfBoundUnlessNone?_slot hT PySem.F.slot_NoneType_hash
   (wpAny_call_entry PySem.F.slot_NoneType_hash hT PySem.F.entry_NoneType_hash
     (show wpAny _ _ (do ret (<- mkInt 0xFCA86420)) _ _ s from wpAny_ret_mkInt ?_) (PySem.F.args_NoneType_hash_1 _)))
 show wpAny _ _ (if (decide (-(2:Int) ^ 63<=0xFCA86420) && decide ((0xFCA86420:Int)<2 ^ 63))=true then _ else _) Q E _
 rw [if_pos (by decide)]
 exact wpAny_pure h
theorem Al {prog:Program} {w:World} {A:Around} {E:Value->Shared->Prop} {s:Shared} {Q:Bool->Shared->Prop} (h:Q true s):wpAny (model prog w) A (eqBool .none .none) Q E s:=by
 have hb:(Value.none == Value.none)=true:=by decide
 unfold eqBool
 rw [if_pos hb]
 exact wpAny_bind (wpAny_rule (wpAny_pure h))
def bT (prog:Program) (w:World):PySem.KeyKind prog w Key where
 is:=uY
 hash:=aeC w
 inj:=fun v a b ha hb=>by
   rcases cR ha with ⟨i,t,rfl,rfl⟩ | ⟨x,t,rfl,rfl⟩ | ⟨rfl,rfl⟩
   . rcases cR hb with ⟨j,u,rfl,e⟩ | ⟨y,u,rfl,e⟩ | ⟨rfl,e⟩
     . injection e with e1 _; rw [e1]
     . exact nomatch e
     . exact nomatch e
   . rcases cR hb with ⟨j,u,rfl,e⟩ | ⟨y,u,rfl,e⟩ | ⟨rfl,e⟩
     . exact nomatch e
     . injection e with e1 _; rw [e1]
     . exact nomatch e
   . rcases cR hb with ⟨j,u,rfl,e⟩ | ⟨y,u,rfl,e⟩ | ⟨rfl,e⟩
     . exact nomatch e
     . exact nomatch e
     . rfl
 byValue:=fun k v h=>by
   rcases cR h with ⟨i,t,rfl,rfl⟩ | ⟨x,t,rfl,rfl⟩ | ⟨rfl,rfl⟩ <;> rfl
 pyHash:=fun hv h=>by
   rcases cR hv with ⟨i,t,rfl,rfl⟩ | ⟨x,t,rfl,rfl⟩ | ⟨rfl,rfl⟩
   . exact wpAny_pyHash_int h
   . exact wpAny_pyHash_str h
   . exact Ky h
 eqBool:=fun hu hv h=>by
   rcases cR hu with ⟨i,t,rfl,rfl⟩ | ⟨x,t,rfl,rfl⟩ | ⟨rfl,rfl⟩
   . rcases cR hv with ⟨j,u,rfl,rfl⟩ | ⟨y,u,rfl,rfl⟩ | ⟨rfl,rfl⟩
     . rw [Xg] at h; exact wpAny_eqBool_int h
     . rw [Oi] at h; exact SeqAt.EqAt.int_str i t y u _ _ _ _ h
     . rw [Xi] at h; exact SeqAt.EqAt.int_none i t _ _ _ _ h
   . rcases cR hv with ⟨j,u,rfl,rfl⟩ | ⟨y,u,rfl,rfl⟩ | ⟨rfl,rfl⟩
     . rw [Oj] at h; exact SeqAt.EqAt.str_int x t j u _ _ _ _ h
     . rw [Xh] at h; exact wpAny_eqBool_str h
     . rw [Oj] at h; exact SeqAt.EqAt.str_none x t _ _ _ _ h
   . rcases cR hv with ⟨j,u,rfl,rfl⟩ | ⟨y,u,rfl,rfl⟩ | ⟨rfl,rfl⟩
     . rw [Xj] at h; exact SeqAt.EqAt.none_int j u _ _ _ _ h
     . rw [Oi] at h; exact SeqAt.EqAt.none_str y u _ _ _ _ h
     . rw [Xk] at h; exact Al h
 «strs»:=fun k x t v h=>by
   rcases cR h with ⟨i,u,rfl,e⟩ | ⟨y,u,rfl,e⟩ | ⟨rfl,e⟩
   . exact nomatch e
   . injection e with e1 _
     subst e1
     cases v <;> rfl
   . exact nomatch e
theorem CW (prog:Program) (w:World) (i:Int) (t:Tok):(bT prog w).is (.inl (some i)) (.int i t)=true:=Kv i t
theorem jy (prog:Program) (w:World) (x:Str) (t:Tok):(bT prog w).is (.inr x) (.str x t)=true:=Kw x t
theorem Am (prog:Program) (w:World):(bT prog w).is (.inl none) .none=true:=Gk
end L2
namespace L2
open PySem PySem.Spec PyProof.Rows
inductive V where
 | non | bl (b:Bool) | int (i:Int) | str (x:Str) | N8 (b:Array UInt8) | flt (b:UInt64) | ref (a:Addr) | ty (n:String)
 deriving DecidableEq
def RelV:V->Value->Prop
 | .non,u=>u=Value.none
 | .bl b,u=>u=Value.bool b
 | .int i,u=>∃ t,u=Value.int i t
 | .str x,u=>∃ t,u=Value.str x t
 | .N8 b,u=>∃ t,u=Value.bytes b t
 | .flt b,u=>∃ t,u=Value.float b t
 | .ref a,u=>u=Value.ref a
 | .ty n,u=>u=Value.type n
abbrev Vals:List V->List Value->Prop:=Paired RelV
theorem Vals.length {xs:List V} {us:List Value} (r:Vals xs us):xs.length=us.length:=Paired.length r
theorem Vals.get:∀ {xs:List V} {us:List Value} {i:Nat} {x:V},Vals xs us->xs[i]?=some x->∃ u,us[i]?=some u/\RelV x u
 | _,_,_,_,.nil,e=>by simp at e
 | _,_,0,_,.cons r _,e=>by simp at e; subst e; exact ⟨_,rfl,r⟩
 | _,_,i+1,x,.cons _ t,e=>by
   obtain ⟨u,h1,h2⟩:=Vals.get (i:=i) (x:=x) t (by simpa using e)
   exact ⟨u,by simpa using h1,h2⟩
theorem Vals.set {x:V} {u:Value} (r:RelV x u):∀ {xs:List V} {us:List Value} (i:Nat),Vals xs us->Vals (xs.set i x) (us.set i u)
 | _,_,_,.nil=>.nil
 | _,_,0,.cons _ t=>.cons r t
 | _,_,i+1,.cons q t=>.cons q (Vals.set r i t)
theorem Vals.append:∀ {xs ys:List V} {us ws:List Value},Vals xs us->Vals ys ws->Vals (xs++ys) (us++ws)
 | _,_,_,_,.nil,s=>s
 | _,_,_,_,.cons r t,s=>.cons r (Vals.append t s)
theorem Vals.take:∀ {xs:List V} {us:List Value} (n:Nat),Vals xs us->Vals (xs.take n) (us.take n)
 | _,_,0,_=>.nil
 | _,_,_+1,.nil=>.nil
 | _,_,n+1,.cons r t=>.cons r (Vals.take n t)
theorem Vals.drop:∀ {xs:List V} {us:List Value} (n:Nat),Vals xs us->Vals (xs.drop n) (us.drop n)
 | _,_,0,r=>r
 | _,_,_+1,.nil=>.nil
 | _,_,n+1,.cons _ t=>Vals.drop n t
def vX:Option V->Option Value->Prop
 | some v,some u=>RelV v u
 | none,none=>True
 | _,_=>False
def KV {κ:Type}:List (κ × V)->List (κ × Value)->Prop:=Paired fun (p:κ × V) (q:κ × Value)=>p.1=q.1/\RelV p.2 q.2
def kV:Key->V
 | .inl none=>.non
 | .inl (some i)=>.int i
 | .inr x=>.str x
inductive HO where
 /-- a list -/
 | lst (xs:List V)
 /-- a tuple (never changes) -/
 | tup (xs:List V)
 /-- a dict whose keys are ints and texts; one whose keys are tuples of ints and texts (the empty one is both) -/
 | dK (kvs:List (Key × V)) | dT (kvs:List (List Key × V))
 /-- a set of ints: its members,its size -/
 | set (S:Int->Bool) (n:Nat)
 /-- an instance of the class at C,its dict at dx,its attributes -/
 | ins (C dx:Addr) (fs:List (Str × V))
 /-- the dict of the instance at x -/
 | own (x:Addr)
 /-- the dict of an exception -/
 | xd (fs:List (Str × V))
 /-- a bound method,f of x -/
 | met (f x:Addr)
 /-- a range object lo,lo+1,.. below hi -/
 | rng (lo hi:Int)
 /-- a thing that is known to the object (the script; a dict while a loop walks it): read,never written while it is so -/
 | Ji (o:Obj) (u:HO)
 /-- a code object's table -/
 | Xl (ps:Array Value)
 /-- any other thing,by what is true of its one object (a def of one's own: anK a S n:=HO.ext fun h=>..) -/
 | ext (φ:Heap->Prop)
abbrev Hp:=Addr->Option HO
def upd (H:Hp) (a:Addr) (o:HO):Hp:=fun b=>if b=a then some o else H b
theorem ao {H:Hp} {a:Addr} {o:HO}:upd H a o a=some o:=by unfold upd; rw [if_pos rfl]
theorem aL {H:Hp} {a b:Addr} {o:HO} (h:b≠a):upd H a o b=H b:=by unfold upd; rw [if_neg h]
theorem aaO {H:Hp} {a b:Addr} {o u:HO} (h:H a=some o) (h':H b=some u) (d:o≠u):a≠b:=by
 intro e; subst e; rw [h] at h'; exact d (Option.some.inj h')
theorem aM {H:Hp} {a b:Addr} {o:HO} (h:H a=some o) (h':H b=none):a≠b:=by
 intro e; subst e; rw [h] at h'; cases h'
def jY (h:Heap) (a:Addr) (items:Array Value):Prop:=∃ o,h.get? a=some o/\o.cls=.type "tuple"/\(∃ n,o.data=.seq items n)/\o.dict=none
theorem jY.to {h:Heap} {a:Addr} {items:Array Value} (x:jY h a items):IsTup h a items:=let ⟨o,e,c,d,_⟩:=x; ⟨o,e,c,d⟩
theorem jY.new (h:Heap) (items:Array Value):jY (h.push { cls:=.type "tuple",data:=.seq items }) h.objs.size items:=⟨_,Heap.get?_push_size _ rfl,rfl,⟨_,rfl⟩,rfl⟩
section
variable (P:Program) (w:World)
def dZ (H:Hp) (h:Heap) (a:Addr):HO->Prop
 | .lst xs=>xs.length<=sizeLine/\∃ (its:List Value) (n:Nat),Vals xs its/\h.get? a=some { cls:=.type "list",data:=.seq its.toArray n }
 | .tup xs=>xs.length<=sizeLine/\∃ its:List Value,Vals xs its/\jY h a its.toArray
 | .dK kvs=>kvs.length<=sizeLine/\(a == sysModules)=false/\∃ vs,KV kvs vs/\h.DictOf (bT P w) a vs
 | .dT kvs=>kvs.length<=sizeLine/\(a == sysModules)=false/\∃ xs:List (List Key × Addr × Value),
     Paired (fun (p:List Key × V) (q:List Key × Addr × Value)=>p.1=q.1/\H q.2.1=some (.tup (p.1.map kV))/\RelV p.2 q.2.2) kvs xs /\
     ∃ o es ep,h.get? a=some o/\o.ExactDict/\o.data=.dict es ep/\es.toList=xs.map (entryOfKey (tupleKind (bT P w)))/\(xs.map (·.1)).Nodup
 | .set S n=>h.SetOf (intKind P w) a S n
 | .ins C dx fs=>H dx=some (.own a)/\fs.length<=1000/\dx≠a/\h.get? a=some (PySem.W.instObj C dx) /\
     ∃ mA,h.Ns1 dx mA/\(∀ f,vX (fs.lookup f) (mA f))/\PySem.Within mA (fs.map (·.1))
 | .own _=>∃ o,h.get? a=some o
 | .xd fs=>∃ mA,h.Ns1 a mA/\∀ f,vX (fs.lookup f) (mA f)
 | .rng lo hi=>∃ t u v,h.get? a=some { cls:=.type "range",data:=.fields #[.int lo t,.int hi u,.int 1 v] }
 | .Ji o u=>h.get? a=some o/\dZ H h a u
 | .Xl ps=>h.get? a=some { cls:=.none,data:=.fields ps }
 | .met f x=>h.get? a=some (PySem.W.methodObj (.ref f) (.ref x))
 | .ext φ=>φ h/\(∃ o,h.get? a=some o)/\∀ h1 h2:Heap,φ h1->(∀ o,h1.get? a=some o->h2.get? a=some o)->φ h2
def rJ (H:Hp) (h:Heap):Prop:=∀ a o,H a=some o->dZ P w H h a o
end
section
variable {P:Program} {w:World} {H H':Hp} {h h':Heap} {a:Addr} {o:HO}
theorem dZ.lt (x:dZ P w H h a o):a<h.objs.size:=by
 cases o with
 | lst xs=>obtain ⟨_,_,_,_,e⟩:=x; exact Heap.lt_size e
 | tup xs=>obtain ⟨_,_,_,_,e,_⟩:=x; exact Heap.lt_size e
 | dK kvs=>obtain ⟨_,_,_,_,o,_,_,e,_⟩:=x; exact Heap.lt_size e
 | dT kvs=>obtain ⟨_,_,_,_,o,_,_,e,_⟩:=x; exact Heap.lt_size e
 | set S n=>obtain ⟨o,_,_,_,e,_⟩:=x; exact Heap.lt_size e
 | ins C dx fs=>obtain ⟨_,_,_,e,_⟩:=x; exact Heap.lt_size e
 | own y=>obtain ⟨_,e⟩:=x; exact Heap.lt_size e
 | xd fs=>obtain ⟨_,⟨_,_,_,e,_⟩,_⟩:=x; exact Heap.lt_size e
 | rng lo hi=>obtain ⟨_,_,_,e⟩:=x; exact Heap.lt_size e
 | Ji ob u=>obtain ⟨e,_⟩:=x; exact Heap.lt_size e
 | Xl ps=>exact Heap.lt_size (show h.get? a=some _ from x)
 | met f y=>exact Heap.lt_size (show h.get? a=some _ from x)
 | ext φ=>obtain ⟨_,⟨_,e⟩,_⟩:=x; exact Heap.lt_size e
theorem Paired.Xm {α β:Type} {F G:α->β->Prop}:∀ {l₁:List α} {l₂:List β},Paired F l₁ l₂->(∀ a b,F a b->G a b)->Paired G l₁ l₂
 | _,_,.nil,_=>.nil
 | _,_,.cons r t,f=>.cons (f _ _ r) (Paired.Xm t f)
theorem dZ.stay (x:dZ P w H h a o) (k:∀ b u,(b=a∨H b=some (.own a))->h.get? b=some u->h'.get? b=some u)
   (ho:∀ b,H b=some (.own a)->H' b=some (.own a)) (ht:∀ b xs,H b=some (.tup xs)->H' b=some (.tup xs)):dZ P w H' h' a o:=by
 induction o with
 | lst xs=>obtain ⟨z,its,n,r,e⟩:=x; exact ⟨z,its,n,r,k _ _ (.inl rfl) e⟩
 | tup xs=>obtain ⟨z,its,r,ob,e,c⟩:=x; exact ⟨z,its,r,ob,k _ _ (.inl rfl) e,c⟩
 | dK kvs=>obtain ⟨z,y,vs,r,ob,es,ep,e,c⟩:=x; exact ⟨z,y,vs,r,ob,es,ep,k _ _ (.inl rfl) e,c⟩
 | dT kvs =>
   obtain ⟨z,y,xs,r,ob,es,ep,e,c⟩:=x
   exact ⟨z,y,xs,Paired.Xm r fun p q z=>⟨z.1,ht _ _ z.2.1,z.2.2⟩,ob,es,ep,k _ _ (.inl rfl) e,c⟩
 | set S n=>obtain ⟨ob,es,ep,t,e,c⟩:=x; exact ⟨ob,es,ep,t,k _ _ (.inl rfl) e,c⟩
 | ins C dx fs =>
   obtain ⟨d,z,ne,e,mA,⟨od,es,ep,e2,c⟩,r⟩:=x
   exact ⟨ho _ d,z,ne,k _ _ (.inl rfl) e,mA,⟨od,es,ep,k _ _ (.inr d) e2,c⟩,r⟩
 | own y=>obtain ⟨ob,e⟩:=x; exact ⟨ob,k _ _ (.inl rfl) e⟩
 | xd fs=>obtain ⟨mA,⟨od,es,ep,e,c⟩,r⟩:=x; exact ⟨mA,⟨od,es,ep,k _ _ (.inl rfl) e,c⟩,r⟩
 | rng lo hi=>obtain ⟨t,u,v,e⟩:=x; exact ⟨t,u,v,k _ _ (.inl rfl) e⟩
 | Ji ob u ih=>obtain ⟨e,q⟩:=x; exact ⟨k _ _ (.inl rfl) e,ih q⟩
 | Xl ps =>
   have e:h.get? a=some { cls:=.none,data:=.fields ps }:=x
   show h'.get? a=some { cls:=.none,data:=.fields ps }
   exact k a _ (.inl rfl) e
 | met f y =>
   have e:h.get? a=some (PySem.W.methodObj (.ref f) (.ref y)):=x
   show h'.get? a=some (PySem.W.methodObj (.ref f) (.ref y))
   exact k a _ (.inl rfl) e
 | ext φ=>obtain ⟨p,⟨o,e⟩,st⟩:=x; exact ⟨st _ _ p fun o q=>k _ _ (.inl rfl) q,⟨o,k _ _ (.inl rfl) e⟩,st⟩
theorem rJ.lt (x:rJ P w H h) (e:H a=some o):a<h.objs.size:=(x a o e).lt
theorem rJ.fresh (x:rJ P w H h) (e:h.objs.size<=a):H a=none:=by
 cases q:H a with
 | none=>rfl
 | some u=>exact absurd (Nat.lt_of_lt_of_le (x.lt q) e) (Nat.lt_irrefl _)
theorem rJ.kept (x:rJ P w H h) (k:∀ b u,h.get? b=some u->h'.get? b=some u):rJ P w H h':=fun a o e =>
 (x a o e).stay (fun b u _ q=>k b u q) (fun _ q=>q) fun _ _ q=>q
theorem rJ.laid (x:rJ P w H h) (k:∀ b u,h.get? b=some u->h'.get? b=some u) (hp:h.objs.size<=a) (new:dZ P w (upd H a o) h' a o):rJ P w (upd H a o) h':=fun b u e=>by
 have hn:=x.fresh hp
 by_cases hb:b=a
 . subst hb; rw [ao] at e; cases e; exact new
 . rw [aL hb] at e
   exact (x b u e).stay (fun c v _ q=>k c v q) (fun c q=>by rw [aL (aM q hn)]; exact q) fun c xs q=>by rw [aL (aM q hn)]; exact q
end
def Rd (H:Hp) (a:Addr) (u:HO):Prop:=H a=some u∨∃ o,H a=some (.Ji o u)
theorem Rd.ok {P:Program} {w:World} {H:Hp} {h:Heap} {a:Addr} {u:HO} (r:Rd H a u) (x:rJ P w H h):dZ P w H h a u:=by
 rcases r with r | ⟨o,r⟩
 . exact x a u r
 . obtain ⟨_,q⟩:=x a _ r
   exact q
def Mut:Option HO->Prop
 | some (.lst _)=>True
 | some (.dK _)=>True
 | some (.dT _)=>True
 | some (.set _ _)=>True
 | some (.ins _ _ _)=>True
 | some (.ext _)=>True
 | _=>False
section
variable {P:Program} {w:World} {H:Hp} {h h':Heap} {x e:Addr} {o':HO}
theorem rJ.write (ok:rJ P w H h) (mu:Mut (H x)) (he:e=x∨H e=some (.own x)) (k:∀ b u,b≠e->h.get? b=some u->h'.get? b=some u) (heo:∃ u,h'.get? e=some u)
   (new:dZ P w (upd H x o') h' x o'):rJ P w (upd H x o') h':=fun b u q=>by
 have aaQ:∀ c y,H c=some (.own y)->c≠x:=fun c y r z=>by subst z; rw [r] at mu; exact mu
 have aeD:∀ c xs,H c=some (.tup xs)->c≠x:=fun c xs r z=>by subst z; rw [r] at mu; exact mu
 by_cases hb:b=x
 . subst hb; rw [ao] at q; cases q; exact new
 . rw [aL hb] at q
   by_cases hbe:b=e
   . have q':H b=some (.own x):=by
       rcases he with z | z
       . exact absurd (hbe.trans z) hb
       . rw [hbe]; exact z
     rw [q] at q'; cases q'
     obtain ⟨v,hv⟩:=heo
     exact ⟨v,by rw [hbe]; exact hv⟩
   . refine (ok b u q).stay (fun c v hc r=>k c v ?_ r) (fun c r=>by rw [aL (aaQ c b r)]; exact r) fun c xs r=>by rw [aL (aeD c xs r)]; exact r
     rcases hc with rfl | hc
     . exact hbe
     . rintro rfl
       rcases he with z | z
       . exact aaQ c b hc z
       . rw [hc] at z; cases z; exact hb rfl
end
structure Un (fs ex:List Addr) (H H':Hp) (h h':Heap):Prop where
 keep:∀ b o,h.get? b=some o->H b=none->b ∉ fs->b ∉ ex->h'.get? b=some o
 slot:∀ b o,h.get? b=some o->H b=none->b∈fs->b ∉ ex->∃ sl,h'.get? b=some { o with slots:=sl }
 free:∀ b o,h.get? b=some o->H b=none->b ∉ ex->H' b=none
 there:∀ b o,h.get? b=some o->b ∉ ex->∃ o',h'.get? b=some o'
 tups:∀ b xs,H b=some (.tup xs)->H' b=some (.tup xs)
 Ao:∀ b o u,H b=some (.Ji o u)->H' b=some (.Ji o u)
 CZ:∀ b ps,H b=some (.Xl ps)->∃ more,H' b=some (.Xl (ps++more))
section
variable {fs fs' ex ex':List Addr} {H H1 H2:Hp} {h h1 h2 h':Heap} {a x e:Addr} {o:HO}
theorem Un.any (u:Un fs ex H H1 h h1) {b:Addr} {ob:Obj} (q:h.get? b=some ob) (n:H b=none) (hx:b ∉ ex):∃ sl,h1.get? b=some { ob with slots:=sl }:=by
 by_cases hb:b∈fs
 . exact u.slot b ob q n hb hx
 . exact ⟨ob.slots,u.keep b ob q n hb hx⟩
theorem Un.kept (k:∀ b u,h.get? b=some u->h'.get? b=some u):Un fs ex H H h h' :=
 ⟨fun b ob q _ _ _=>k b ob q,fun b ob q _ _ _=>⟨ob.slots,k b ob q⟩,fun _ _ _ n _=>n,fun b ob q _=>⟨ob,k b ob q⟩,fun _ _ q=>q,fun _ _ _ q=>q,fun _ ps q=>⟨#[],by rw [q]; simp⟩⟩
theorem Un.refl:Un fs ex H H h h:=Un.kept fun _ _ q=>q
theorem Un.laid (k:∀ b u,h.get? b=some u->h'.get? b=some u) (hp:h.objs.size<=a) (hn:H a=none):Un fs ex H (upd H a o) h h' where
 keep:=fun b u q _ _ _=>k b u q
 slot:=fun b u q _ _ _=>⟨u.slots,k b u q⟩
 free:=fun b u q n _=>by rw [aL (Nat.ne_of_lt (Nat.lt_of_lt_of_le (Heap.lt_size q) hp))]; exact n
 there:=fun b u q _=>⟨u,k b u q⟩
 tups:=fun b xs q=>by rw [aL (aM q hn)]; exact q
 Ao:=fun b u xs q=>by rw [aL (aM q hn)]; exact q
 CZ:=fun b ps q=>⟨#[],by rw [aL (aM q hn),q]; simp⟩
theorem Un.write (mu:Mut (H x)) (he:e=x∨H e=some (.own x)) (k:∀ b u,b≠e->h.get? b=some u->h'.get? b=some u) (heo:∃ u,h'.get? e=some u):Un fs ex H (upd H x o) h h':=by
 have hx:∀ b,H b=none->b≠x:=fun b n z=>by subst z; rw [n] at mu; exact mu
 have hb:∀ b,H b=none->b≠e:=fun b n z=>by
   subst z
   rcases he with r | r
   . exact hx b n r
   . rw [n] at r; cases r
 have hm:∀ b u,H b=some u->¬ Mut (some u)->b≠x:=fun b u q nm z=>by subst z; rw [q] at mu; exact nm mu
 refine ⟨fun b u q n _ _=>k b u (hb b n) q,fun b u q n _ _=>⟨u.slots,k b u (hb b n) q⟩,fun b u q n _=>by rw [aL (hx b n)]; exact n,fun b u q _=>?_,
   fun b xs q=>by rw [aL (hm b _ q fun z=>z)]; exact q,fun b u xs q=>by rw [aL (hm b _ q fun z=>z)]; exact q,fun b ps q=>⟨#[],by rw [aL (hm b _ q fun z=>z),q]; simp⟩⟩
 by_cases hbe:b=e
 . subst hbe; exact heo
 . exact ⟨u,k b u hbe q⟩
end
def trk (h:Heap) (H:Hp):List Addr:=(List.range h.objs.size).filter fun a=>(H a).isSome
def Aq (h:Heap) (H:Hp):Heap:=PySem.W.hideAll h (trk h H)
theorem Kz (h:Heap) (H:Hp):(Aq h H).objs.size=h.objs.size:=PySem.W.hideAll_size _ _
theorem Ol {h:Heap} {H:Hp} {b:Addr} {o:Obj} (e:h.get? b=some o) (n:H b=none):(Aq h H).get? b=some o :=
 PySem.W.hideAll_get _ e fun hm=>by
   have q:(H b).isSome=true:=(List.mem_filter.mp hm).2
   rw [n] at q; simp at q
theorem Tp {h:Heap} {H:Hp} {b:Addr} {o:Obj} (e:(Aq h H).get? b=some o):h.get? b=some o/\H b=none:=by
 have e':h.get? b=some o:=PySem.W.of_hideAll (trk h H) e
 refine ⟨e',?_⟩
 cases q:H b with
 | none=>rfl
 | some x =>
   have hm:b∈trk h H:=List.mem_filter.mpr ⟨List.mem_range.mpr (Heap.lt_size e'),by simp [q]⟩
   have z:(Aq h H).get? b=none:=PySem.W.hideAll_none (trk h H) hm
   rw [z] at e; cases e
end L2
namespace L2
open PySem PySem.Spec PyProof.Rows
structure Mod (K:PySem.W.Frag) (mg:Str->Option Value) (base:Heap):Prop where
 kin:K.In base
 glob:base.Ns mainGlobals mg
 blt:∃ mb,base.Ns builtinsNs mb/\∀ x:Str,x≠"__name__"->mb x=bootBuiltins x
 nolimit:base.NoLimit
structure Cx where
 prog:Program
 w:World
 K:PySem.W.Frag
 mg:Str->Option Value
 base:Heap
 A:Around
 N:List Str
 s₀:Shared
 H₀:Hp
 env:Env
 outer:List Env
 stack:List Env
 ex:List Addr
 fn:Str->Bool
 calm:Bool
 pn:List (Addr × Obj)
 xe:Value->Shared->Prop
def frs (l:List Env):List Addr:=l.filterMap (·.frame)
abbrev Cx.fs (X:Cx):List Addr:=frs X.outer
def Vis (sc:Scope) (x:Str):Prop:=sc.names.lookup x=some .local∨sc.names.lookup x=some .cell∨sc.names.lookup x=some .free
def Loc (sc:Scope) (x:Str):Prop:=sc.names.lookup x=some .local∨sc.names.lookup x=some .cell
def Look (env:Env) (h:Heap) (m:Str->Option Value) (x:Str) (u:Value):Prop :=
 (env.kindOf x=some .local/\m x=some u)∨((env.kindOf x=some .cell∨env.kindOf x=some .free)/\∃ c,env.cells.lookup x=some c/\h.IsCell c (some u))
structure Cx.Ok (X:Cx):Prop where
 mod:Mod X.K X.mg X.base
 kind:X.env.scope.kind=.function
 glob:X.env.globals=mainGlobals
 blt:X.env.builtins=builtinsNs
 above:X.s₀.heap.objs.size<=X.env.locals
 inj:∀ x y c,X.env.cells.lookup x=some c->X.env.cells.lookup y=some c->x=y
 has:∀ x,(X.env.kindOf x=some .cell∨X.env.kindOf x=some .free)->∃ c,X.env.cells.lookup x=some c
 cab:∀ x c,X.fn x=true->X.env.cells.lookup x=some c->X.s₀.heap.objs.size<=c
 hd:X.calm=true->X.A.handled=none
 frames:X.A.frames=some X.stack
 stk:X.stack=X.outer∨(X.stack=X.env :: X.outer/\X.env.frame=some X.env.locals)
 exf:∀ b∈X.ex,b≠X.env.locals/\∀ x c,X.env.cells.lookup x=some c->c≠b
 bs:∀ b o,X.base.get? b=some o->X.s₀.heap.get? b=some o/\X.H₀ b=none
 Wf:X.base.objs.size<=X.s₀.heap.objs.size
 Om:∀ b o,X.base.get? b=some o->b ∉ X.ex
 KC:∀ b∈X.ex,b ∉ X.fs
 vY:X.s₀.heap.FunFrames X.base X.outer
 frf:∀ b∈X.fs,X.H₀ b=none
structure Inv (X:Cx) (pins:List (Addr × Obj)) (σ:List (Option V)) (H:Hp) (s:Shared):Prop where
 ok:X.Ok
 os:s.os=X.s₀.os
 bare:AllBare s.gens
 base:Un X.fs X.ex X.H₀ H X.s₀.heap s.heap
 loc:∃ m,s.heap.Ns X.env.locals m/\∀ (i:Nat) (x:Str) (v:V),X.N[i]?=some x->σ[i]?=some (some v)->Vis X.env.scope x->∃ u,RelV v u/\Look X.env s.heap m x u
 cell:∀ x c,X.env.cells.lookup x=some c->∃ v,s.heap.IsCell c v
 free:H X.env.locals=none
 n6:∀ x c,X.env.cells.lookup x=some c->H c=none
 pin:∀ p∈X.pn++pins,s.heap.get? p.1=some p.2/\H p.1=none/\p.1≠X.env.locals/\p.1 ∉ X.fs/\∀ v,p.2.data≠.cell v
 hok:rJ X.prog X.w H s.heap
 len:σ.length=X.N.length
section
variable {X:Cx} {pins:List (Addr × Obj)} {σ:List (Option V)} {H H':Hp} {s:Shared} {h':Heap}
theorem Cx.Ok.aeF (ok:X.Ok) {b:Addr} {o:Obj} (e:X.base.get? b=some o):b ∉ X.fs:=fun hb=>by
 have:=(ok.vY.mem hb).1
 rw [e] at this; cases this
theorem Inv.bs (I:Inv X pins σ H s):∀ b o,X.base.get? b=some o->s.heap.get? b=some o/\H b=none:=fun b o e =>
 ⟨I.base.keep b o (I.ok.bs b o e).1 (I.ok.bs b o e).2 (I.ok.aeF e) (I.ok.Om b o e),I.base.free b o (I.ok.bs b o e).1 (I.ok.bs b o e).2 (I.ok.Om b o e)⟩
theorem Inv.bk (I:Inv X pins σ H s):∀ b o,X.base.get? b=some o->s.heap.get? b=some o:=fun b o e=>(I.bs b o e).1
theorem Inv.mod (I:Inv X pins σ H s):Mod X.K X.mg X.base:=I.ok.mod
theorem Inv.Dc (I:Inv X pins σ H s):X.K.In s.heap:=I.ok.mod.kin.keeps I.bk
theorem Inv.lt (I:Inv X pins σ H s):X.env.locals<s.heap.objs.size:=let ⟨_,hn,_⟩:=I.loc; hn.lt
theorem Inv.sz (I:Inv X pins σ H s):X.s₀.heap.objs.size<=s.heap.objs.size:=Nat.le_trans I.ok.above (Nat.le_of_lt I.lt)
theorem Inv.aeG (I:Inv X pins σ H s) {a:Addr} (h:s.heap.objs.size<=a):a ∉ X.fs:=fun hb=>by
 obtain ⟨_,o,ho,_⟩:=I.ok.vY.mem hb
 exact absurd (Nat.lt_of_lt_of_le (Heap.lt_size ho) (Nat.le_trans I.sz h)) (Nat.lt_irrefl _)
theorem Inv.Xn (I:Inv X pins σ H s):∀ x c,X.env.cells.lookup x=some c->c≠X.env.locals:=fun x c e z=>by
 obtain ⟨v,o,ho,hd⟩:=I.cell x c e
 obtain ⟨m,⟨o',es,ep,ho',hd',_⟩,_⟩:=I.loc
 rw [z,ho'] at ho; cases ho; rw [hd'] at hd; cases hd
theorem Inv.vY (I:Inv X pins σ H s):s.heap.FunFrames X.base X.outer:=by
 have all:∀ (l:List Env),(∀ b∈frs l,b∈X.fs)->X.s₀.heap.FunFrames X.base l->s.heap.FunFrames X.base l:=by
   intro l
   induction l with
   | nil=>intro _ _; trivial
   | cons env r ih =>
     intro hs hl
     obtain ⟨hk,⟨L,o,hf,hn,ho,hd⟩,hr⟩:=hl
     have hL:L∈X.fs:=hs L (by unfold frs; rw [List.filterMap_cons,hf]; exact List.mem_cons_self)
     obtain ⟨sl,e⟩:=I.base.slot L o ho (I.ok.frf L hL) hL fun z=>I.ok.KC L z hL
     exact ⟨hk,⟨L,_,hf,hn,e,hd⟩,ih (fun b hb=>hs b (by unfold frs; rw [List.filterMap_cons,hf]; exact List.mem_cons_of_mem _ hb)) hr⟩
 exact all X.outer (fun _ hb=>hb) I.ok.vY
theorem Inv.stack (I:Inv X pins σ H s):s.heap.FunFrames X.base X.stack:=by
 rcases I.ok.stk with e | ⟨e,hf⟩
 . rw [e]; exact I.vY
 . rw [e]
   obtain ⟨m,hn,_⟩:=I.loc
   refine .cons (by rw [I.ok.kind]; decide) hf hn ?_ I.vY
   exact Heap.get?_none_of_le (Nat.le_trans I.ok.Wf I.ok.above)
theorem Inv.Gm (I:Inv X pins σ H s):∀ b∈frs X.stack,b∈X.env.locals :: X.fs:=fun b hb=>by
 rcases I.ok.stk with e | ⟨e,hf⟩
 . rw [e] at hb; exact List.mem_cons_of_mem _ hb
 . rw [e] at hb
   unfold frs at hb
   rw [List.filterMap_cons,hf] at hb
   exact hb
theorem Inv.Jj (I:Inv X pins σ H s):∀ b∈frs X.stack,H b=none:=fun b hb=>by
 rcases List.mem_cons.mp (I.Gm b hb) with e | hb
 . rw [e]; exact I.free
 . obtain ⟨_,o,ho,_⟩:=I.ok.vY.mem hb
   exact I.base.free b o ho (I.ok.frf b hb) fun z=>I.ok.KC b z hb
theorem Inv.step {g':Array GenState} {t':Nat} {d':Drawn} {ch:List Addr} (I:Inv X pins σ H s)
   (hch:∀ b∈ch,(b∈X.ex∨X.s₀.heap.objs.size<=b)/\b≠X.env.locals/\(∀ x c,X.env.cells.lookup x=some c->c≠b)/\∀ p∈X.pn++pins,p.1≠b)
   (keep:∀ b o,b≠X.env.locals->b ∉ X.fs->b ∉ ch->s.heap.get? b=some o->H b=none->h'.get? b=some o)
   (slot:∀ b o,b≠X.env.locals->b∈X.fs->b ∉ ch->s.heap.get? b=some o->H b=none->∃ sl,h'.get? b=some { o with slots:=sl }) (free:∀ b o,b ∉ ch->s.heap.get? b=some o->H b=none->H' b=none)
   (there:∀ b o,b ∉ ch->s.heap.get? b=some o->∃ o',h'.get? b=some o')
   (tups:∀ b xs,H b=some (.tup xs)->H' b=some (.tup xs)) (Ao:∀ b o u,H b=some (.Ji o u)->H' b=some (.Ji o u)) (CZ:∀ b ps,H b=some (.Xl ps)->∃ more,H' b=some (.Xl (ps++more)))
   (ns:∀ m,s.heap.Ns X.env.locals m->h'.Ns X.env.locals m) (hok:rJ X.prog X.w H' h') (hg:AllBare g') :
   Inv X pins σ H' { s with heap:=h',gens:=g',drawn:=d',toks:=t' }:=by
 have neL:∀ b o,X.s₀.heap.get? b=some o->b≠X.env.locals:=fun b o e=>Nat.ne_of_lt (Nat.lt_of_lt_of_le (Heap.lt_size e) I.ok.above)
 have neC:∀ b o,X.s₀.heap.get? b=some o->b ∉ X.ex->b ∉ ch:=fun b o e hx hb=>by
   rcases (hch b hb).1 with z | z
   . exact hx z
   . exact absurd (Nat.lt_of_lt_of_le (Heap.lt_size e) z) (Nat.lt_irrefl _)
 have cellK:∀ x c,X.env.cells.lookup x=some c->∀ v,s.heap.IsCell c v->h'.IsCell c v:=fun x c e v ⟨o,ho,hd⟩=>by
   have nch:c ∉ ch:=fun z=>(hch c z).2.2.1 x c e rfl
   by_cases hc:c∈X.fs
   . obtain ⟨sl,q⟩:=slot c o (I.Xn x c e) hc nch ho (I.n6 x c e)
     exact ⟨_,q,hd⟩
   . exact ⟨o,keep c o (I.Xn x c e) hc nch ho (I.n6 x c e),hd⟩
 refine ⟨I.ok,I.os,hg,⟨fun b o e n hb hx=>?_,fun b o e n hb hx=>?_,fun b o e n hx=>?_,fun b o e hx=>?_,fun b xs e=>tups b xs (I.base.tups b xs e),fun b o xs e=>Ao b o xs (I.base.Ao b o xs e),fun b ps e=>?_⟩,?_,fun x c e=>?_,?_,fun x c e=>?_,fun p hp=>?_,hok,I.len⟩
 . exact keep b o (neL b o e) hb (neC b o e hx) (I.base.keep b o e n hb hx) (I.base.free b o e n hx)
 . obtain ⟨sl,e1⟩:=I.base.slot b o e n hb hx
   obtain ⟨sl',e2⟩:=slot b _ (neL b o e) hb (neC b o e hx) e1 (I.base.free b o e n hx)
   exact ⟨sl',e2⟩
 . obtain ⟨o',e1⟩:=I.base.there b o e hx
   exact free b o' (neC b o e hx) e1 (I.base.free b o e n hx)
 . obtain ⟨o',e1⟩:=I.base.there b o e hx
   exact there b o' (neC b o e hx) e1
 . obtain ⟨m1,e1⟩:=I.base.CZ b ps e
   obtain ⟨m2,e2⟩:=CZ b _ e1
   exact ⟨m1++m2,by rw [e2,Array.append_assoc]⟩
 . obtain ⟨m,hn,hl⟩:=I.loc
   refine ⟨m,ns m hn,fun i x v e1 e2 e3=>?_⟩
   obtain ⟨u,r,l⟩:=hl i x v e1 e2 e3
   refine ⟨u,r,?_⟩
   rcases l with l | ⟨k,c,e,z⟩
   . exact .inl l
   . exact .inr ⟨k,c,e,cellK x c e _ z⟩
 . obtain ⟨v,z⟩:=I.cell x c e
   exact ⟨v,cellK x c e v z⟩
 . obtain ⟨m,⟨o,_,_,ho,_⟩,_⟩:=I.loc
   exact free _ o (fun z=>(hch _ z).2.1 rfl) ho I.free
 . obtain ⟨v,o,ho,hd⟩:=I.cell x c e
   exact free c o (fun z=>(hch c z).2.2.1 x c e rfl) ho (I.n6 x c e)
 . obtain ⟨e,n,ne,nf,d⟩:=I.pin p hp
   have nch:p.1 ∉ ch:=fun z=>(hch p.1 z).2.2.2 p hp rfl
   exact ⟨keep p.1 p.2 ne nf nch e n,free p.1 p.2 nch e n,ne,nf,d⟩
theorem Inv.un {t':Nat} (I:Inv X pins σ H s) (u:Un X.fs [] H H' s.heap h') (hok:rJ X.prog X.w H' h'):Inv X pins σ H' { s with heap:=h',toks:=t' }:=by
 obtain ⟨m,⟨o,es,ep,ho,r⟩,_⟩:=id I.loc
 obtain ⟨sl,hL⟩:=u.any ho I.free (by simp)
 exact I.step (g':=s.gens) (d':=s.drawn) (ch:=[]) (fun _ z=>nomatch z) (fun b o _ hb _ e n=>u.keep b o e n hb (by simp)) (fun b o _ hb _ e n=>u.slot b o e n hb (by simp)) (fun b o _ e n=>u.free b o e n (by simp)) (fun b o _ e=>u.there b o e (by simp)) u.tups u.Ao u.CZ (fun m' hm=>by
   obtain ⟨o',es',ep',ho',r'⟩:=hm
   rw [ho] at ho'; cases ho'
   exact ⟨_,es',ep',hL,r'⟩) hok I.bare
theorem Inv.call {g':Array GenState} {t':Nat} {d':Drawn} {ch:List Addr} (I:Inv X pins σ H s) (u:Un (frs X.stack) ch H H' s.heap h') (hok:rJ X.prog X.w H' h') (hg:AllBare g')
   (hch:∀ b∈ch,(b∈X.ex∨X.s₀.heap.objs.size<=b)/\b≠X.env.locals/\(∀ x c,X.env.cells.lookup x=some c->c≠b)/\∀ p∈X.pn++pins,p.1≠b) :
   Inv X pins σ H' { s with heap:=h',gens:=g',drawn:=d',toks:=t' }:=by
 obtain ⟨m,⟨o,es,ep,ho,r⟩,_⟩:=id I.loc
 obtain ⟨sl,hL⟩:=u.any ho I.free fun z=>(hch _ z).2.1 rfl
 exact I.step (ch:=ch) hch (fun b o hL hb hc e n=>u.keep b o e n (fun z=>(List.mem_cons.mp (I.Gm b z)).elim hL hb) hc) (fun b o _ _ hc e n=>u.any e n hc) (fun b o hc e n=>u.free b o e n hc) (fun b o hc e=>u.there b o e hc) u.tups u.Ao u.CZ (fun m' hm=>by
   obtain ⟨o',es',ep',ho',r'⟩:=hm
   rw [ho] at ho'; cases ho'
   exact ⟨_,es',ep',hL,r'⟩) hok hg
theorem Inv.turned {t':Nat} {it:Addr} (I:Inv X pins σ H s) (k:∀ b o,b≠it->s.heap.get? b=some o->h'.get? b=some o) (hn:H it=none) (hL:it≠X.env.locals)
   (h1:it∈X.ex∨X.s₀.heap.objs.size<=it) (h2:∀ x c,X.env.cells.lookup x=some c->c≠it) (h3:∀ p∈X.pn++pins,p.1≠it):Inv X pins σ H { s with heap:=h',toks:=t' }:=by
 have nit:∀ b u,H b=some u->b≠it:=fun b u e z=>by rw [z,hn] at e; cases e
 refine I.step (g':=s.gens) (d':=s.drawn) (ch:=[it]) (fun b hb=>?_) (fun b o _ _ hc e _=>k b o (fun z=>hc (by simp [z])) e) (fun b o _ _ hc e _=>⟨o.slots,k b o (fun z=>hc (by simp [z])) e⟩) (fun _ _ _ _ n=>n)
   (fun b o hc e=>⟨o,k b o (fun z=>hc (by simp [z])) e⟩) (fun _ _ e=>e) (fun _ _ _ e=>e) (fun b ps e=>⟨#[],by rw [e]; simp⟩) (fun m hm=>?_) (fun b u e=>?_) I.bare
 . have e:b=it:=by simpa using hb
   subst e
   exact ⟨h1,hL,h2,h3⟩
 . obtain ⟨o,es,ep,ho,r⟩:=hm
   exact ⟨o,es,ep,k _ o (Ne.symm hL) ho,r⟩
 . refine (I.hok b u e).stay (fun c v hc q=>k c v ?_ q) (fun _ q=>q) fun _ _ q=>q
   rcases hc with z | z
   . rw [z]; exact nit b u e
   . exact nit c _ z
theorem Inv.tok (I:Inv X pins σ H s) (t:Nat):Inv X pins σ H { s with toks:=t }:=I.un (h':=s.heap) (t':=t) Un.refl I.hok
theorem Inv.kept {t':Nat} (I:Inv X pins σ H s) (k:∀ b u,s.heap.get? b=some u->h'.get? b=some u):Inv X pins σ H { s with heap:=h',toks:=t' }:=I.un (Un.kept k) (I.hok.kept k)
theorem Inv.laid {a:Addr} {o:HO} {t':Nat} (I:Inv X pins σ H s) (k:∀ b u,s.heap.get? b=some u->h'.get? b=some u) (hp:s.heap.objs.size<=a) (new:dZ X.prog X.w (upd H a o) h' a o) :
   Inv X pins σ (upd H a o) { s with heap:=h',toks:=t' }:=I.un (Un.laid k hp (I.hok.fresh hp)) (I.hok.laid k hp new)
theorem Inv.write {x e:Addr} {o:HO} {t':Nat} (I:Inv X pins σ H s) (mu:Mut (H x)) (he:e=x∨H e=some (.own x)) (k:∀ b u,b≠e->s.heap.get? b=some u->h'.get? b=some u) (heo:∃ u,h'.get? e=some u)
   (new:dZ X.prog X.w (upd H x o) h' x o):Inv X pins σ (upd H x o) { s with heap:=h',toks:=t' }:=I.un (Un.write mu he k heo) (I.hok.write mu he k heo new)
theorem Inv.Jk {Wg:List (Addr × Obj)} (I:Inv X pins σ H s) (h:∀ p∈Wg,s.heap.get? p.1=some p.2/\H p.1=none/\p.1≠X.env.locals/\p.1 ∉ X.fs/\∀ v,p.2.data≠.cell v):Inv X Wg σ H s :=
 ⟨I.ok,I.os,I.bare,I.base,I.loc,I.cell,I.free,I.n6,fun p hp=>(List.mem_append.mp hp).elim (fun z=>I.pin p (List.mem_append_left _ z)) (h p),I.hok,I.len⟩
theorem Dd {N:List Str} (hN:N.Nodup) {i j:Nat} {x:Str} (a:N[i]?=some x) (b:N[j]?=some x):i=j:=by
 obtain ⟨h1,e1⟩:=List.getElem?_eq_some_iff.mp a
 obtain ⟨h2,e2⟩:=List.getElem?_eq_some_iff.mp b
 exact (List.getElem_inj hN).mp (e1.trans e2.symm)
theorem tH {M:Model} {A:Around} {E:Value->Shared->Prop} {i:Nat} {x:Str} {v:V} {u:Value} {Q:Unit->Shared->Prop} (I:Inv X pins σ H s) (hN:X.N.Nodup) (hi:X.N[i]?=some x) (hx:Loc X.env.scope x) (r:RelV v u)
   (h:∀ s',Inv X pins (σ.set i (some v)) H s'->(∃ a,Heap.SameBut a s.heap s'.heap/\(a=X.env.locals∨X.env.cells.lookup x=some a))->Q () s') (hf:X.fn x=true∨X.env.scope.names.lookup x=some .local:=by first | exact .inl rfl | exact .inr rfl | assumption):wpAny M A (storeName X.env x u) Q E s:=by
 obtain ⟨m,hn,hl⟩:=id I.loc
 have hcls:(X.env.scope.kind == .class || (X.env.scope.kind == .module && X.env.locals != X.env.globals))=false:=by rw [I.ok.kind]; rfl
 have amb:i<σ.length:=by rw [I.len]; exact (List.getElem?_eq_some_iff.mp hi).1
 have Xn:=I.Xn
 have tracked:∀ {a:Addr} {h':Heap},(∃ o,s.heap.get? a=some o/\H a=none)->Heap.SameBut a s.heap h'->rJ X.prog X.w H h':=fun {a h'} ha hs b ob e=>by
   obtain ⟨_,_,hfree⟩:=ha
   refine (I.hok b ob e).stay (fun c w' hc q=>(hs.2 c ?_).trans q) (fun _ q=>q) fun _ _ q=>q
   rintro rfl
   rcases hc with rfl | hc
   . rw [hfree] at e; cases e
   . rw [hfree] at hc; cases hc
 rcases hx with hk | hk
 . refine wpAny_storeName_local hk hn (fun h' hn' hs=>?_) hcls
   obtain ⟨oL,_,_,hoL,_⟩:=id hn
   refine h _ ⟨I.ok,I.os,I.bare,⟨fun b o e n hb hx=>?_,fun b o e n hb hx=>?_,I.base.free,fun b o e hx=>?_,I.base.tups,I.base.Ao,I.base.CZ⟩,⟨_,hn',fun j y v' e1 e2 e3=>?_⟩,fun y c e=>?_,I.free,I.n6,fun p hp=>?_,tracked ⟨oL,hoL,I.free⟩ hs,by simpa using I.len⟩ ⟨_,hs,.inl rfl⟩
   . exact (hs.2 b (Nat.ne_of_lt (Nat.lt_of_lt_of_le (Heap.lt_size e) I.ok.above))).trans (I.base.keep b o e n hb hx)
   . obtain ⟨sl,e1⟩:=I.base.slot b o e n hb hx
     exact ⟨sl,(hs.2 b (Nat.ne_of_lt (Nat.lt_of_lt_of_le (Heap.lt_size e) I.ok.above))).trans e1⟩
   . obtain ⟨o',e1⟩:=I.base.there b o e hx
     exact ⟨o',(hs.2 b (Nat.ne_of_lt (Nat.lt_of_lt_of_le (Heap.lt_size e) I.ok.above))).trans e1⟩
   . by_cases hj:j=i
     . subst hj
       rw [hi] at e1; cases e1
       rw [List.getElem?_set_self amb] at e2
       cases e2
       exact ⟨u,r,.inl ⟨hk,by simp⟩⟩
     . rw [List.getElem?_set_ne (Ne.symm hj)] at e2
       obtain ⟨u',r',q⟩:=hl j y v' e1 e2 e3
       refine ⟨u',r',?_⟩
       rcases q with ⟨k,e⟩ | ⟨k,c,e,z⟩
       . refine .inl ⟨k,?_⟩
         have:y≠x:=fun e=>hj (Dd hN e1 (e ▸ hi))
         simp [this,e]
       . exact .inr ⟨k,c,e,z.sameBut hs (Xn y c e)⟩
   . obtain ⟨w',z⟩:=I.cell y c e
     exact ⟨w',z.sameBut hs (Xn y c e)⟩
   . obtain ⟨e,n,ne,nf,d⟩:=I.pin p hp
     exact ⟨(hs.2 p.1 ne).trans e,n,ne,nf,d⟩
 . have hfn:X.fn x=true:=by
     rcases hf with z | z
     . exact z
     . rw [z] at hk; cases hk
   obtain ⟨c,hc⟩:=I.ok.has x (.inl hk)
   obtain ⟨w',z⟩:=I.cell x c hc
   refine wpAny_storeName_cell I.ok.kind hk hc z (fun h' hc' hs=>?_)
   obtain ⟨oc,hoc,aeH⟩:=id z
   refine h { s with heap:=h' } ⟨I.ok,I.os,I.bare,⟨fun b o e n hb hx=>?_,fun b o e n hb hx=>?_,I.base.free,fun b o e hx=>?_,I.base.tups,I.base.Ao,I.base.CZ⟩,⟨m,hn.sameBut hs (Ne.symm (Xn x c hc)),fun j y v' e1 e2 e3=>?_⟩,fun y c' e=>?_,I.free,I.n6,fun p hp=>?_,tracked ⟨oc,hoc,I.n6 x c hc⟩ hs,by simpa using I.len⟩ ⟨c,hs,.inr hc⟩
   . exact (hs.2 b (Nat.ne_of_lt (Nat.lt_of_lt_of_le (Heap.lt_size e) (I.ok.cab x c hfn hc)))).trans (I.base.keep b o e n hb hx)
   . obtain ⟨sl,e1⟩:=I.base.slot b o e n hb hx
     exact ⟨sl,(hs.2 b (Nat.ne_of_lt (Nat.lt_of_lt_of_le (Heap.lt_size e) (I.ok.cab x c hfn hc)))).trans e1⟩
   . obtain ⟨o',e1⟩:=I.base.there b o e hx
     exact ⟨o',(hs.2 b (Nat.ne_of_lt (Nat.lt_of_lt_of_le (Heap.lt_size e) (I.ok.cab x c hfn hc)))).trans e1⟩
   . by_cases hj:j=i
     . subst hj
       rw [hi] at e1; cases e1
       rw [List.getElem?_set_self amb] at e2
       cases e2
       exact ⟨u,r,.inr ⟨.inl hk,c,hc,hc'⟩⟩
     . rw [List.getElem?_set_ne (Ne.symm hj)] at e2
       obtain ⟨u',r',q⟩:=hl j y v' e1 e2 e3
       refine ⟨u',r',?_⟩
       rcases q with q | ⟨k,c',e,z'⟩
       . exact .inl q
       . refine .inr ⟨k,c',e,z'.sameBut hs ?_⟩
         rintro rfl
         exact hj (Dd hN e1 (I.ok.inj _ _ _ e hc ▸ hi))
   . by_cases hcc:c'=c
     . subst hcc; exact ⟨_,hc'⟩
     . obtain ⟨w2,z2⟩:=I.cell y c' e
       exact ⟨w2,z2.sameBut hs hcc⟩
   . obtain ⟨e,n,ne,nf,d⟩:=I.pin p hp
     refine ⟨(hs.2 p.1 ?_).trans e,n,ne,nf,d⟩
     intro q
     rw [q,hoc] at e
     have q':oc=p.2:=Option.some.inj e
     exact d w' (by rw [<- q']; exact aeH)
theorem rK {M:Model} {A:Around} {E:Value->Shared->Prop} {i:Nat} {x:Str} {v:V} {u:Value} {Q:Unit->Shared->Prop} (I:Inv X pins σ H s) (hN:X.N.Nodup) (hi:X.N[i]?=some x) (hx:Loc X.env.scope x) (r:RelV v u)
   (h:∀ s',Inv X pins (σ.set i (some v)) H s'->Q () s') (hf:X.fn x=true∨X.env.scope.names.lookup x=some .local:=by first | exact .inl rfl | exact .inr rfl | assumption):wpAny M A (storeName X.env x u) Q E s :=
 tH I hN hi hx r (fun s' I' _=>h s' I') hf
theorem Inv.call' {s':Shared} {ch:List Addr} (I:Inv X pins σ H s) (ho:s'.os=s.os) (u:Un (frs X.stack) ch H H' s.heap s'.heap) (hok:rJ X.prog X.w H' s'.heap) (hg:AllBare s'.gens)
   (hch:∀ b∈ch,(b∈X.ex∨X.s₀.heap.objs.size<=b)/\b≠X.env.locals/\(∀ x c,X.env.cells.lookup x=some c->c≠b)/\∀ p∈X.pn++pins,p.1≠b):Inv X pins σ H' s':=by
 obtain ⟨h',g',d',t',o'⟩:=s'
 have e:o'=s.os:=ho
 subst e
 exact I.call (g':=g') (t':=t') (d':=d') u hok hg hch
end
abbrev XK:=Value->Option Addr->Hp->Prop
abbrev St:=List (Option V)
abbrev VK:=V->Hp->Prop
abbrev TE:=St->Hp->VK->Prop
abbrev TT:=St->Hp->(Bool->Hp->Prop)->Prop
abbrev TA:=St->Hp->(List V->Hp->Prop)->Prop
structure Ends where
 nx:St->Hp->Prop
 rt:VK
 bk:St->Hp->Prop:=fun _ _=>False
 ct:St->Hp->Prop:=fun _ _=>False
abbrev TS:=Ends->St->Hp->Prop
def EP (X:Cx) (pins:List (Addr × Obj)) (σ:St) (Q:VK) (u:Value) (s':Shared):Prop:=∃ v H',Inv X pins σ H' s'/\RelV v u/\Q v H'
def TP (X:Cx) (pins:List (Addr × Obj)) (σ:St) (Q:Bool->Hp->Prop) (b:Bool) (s':Shared):Prop:=∃ H',Inv X pins σ H' s'/\Q b H'
def AP (X:Cx) (pins:List (Addr × Obj)) (σ:St) (Q:List V->Hp->Prop) (us:List Value) (s':Shared):Prop:=∃ vs H',Inv X pins σ H' s'/\Vals vs us/\Q vs H'
def SP (X:Cx) (pins:List (Addr × Obj)) (D:Ends) (f:Flow) (s':Shared):Prop :=
 match f with
 | .next=>∃ σ' H',Inv X pins σ' H' s'/\D.nx σ' H'
 | .brk=>∃ σ' H',Inv X pins σ' H' s'/\D.bk σ' H'
 | .cont=>∃ σ' H',Inv X pins σ' H' s'/\D.ct σ' H'
 | .ret u=>∃ v σ' H',Inv X pins σ' H' s'/\RelV v u/\D.rt v H'
def PE (X:Cx) (e:Expr) (t:TE):Prop :=
 ∀ (pins:List (Addr × Obj)) (s:Shared) (σ:St) (H:Hp) (Q:VK),Inv X pins σ H s->t σ H Q->wpAny (model X.prog X.w) X.A (eval e X.env) (EP X pins σ Q) X.xe s
def PT (X:Cx) (e:Expr) (t:TT):Prop :=
 ∀ (pins:List (Addr × Obj)) (s:Shared) (σ:St) (H:Hp) (Q:Bool->Hp->Prop),Inv X pins σ H s->t σ H Q->wpAny (model X.prog X.w) X.A (isTrue e X.env (eval e X.env)) (TP X pins σ Q) X.xe s
def PW (X:Cx) (e:Expr) (t:TT):Prop :=
 ∀ (whole:Sem Value) (pins:List (Addr × Obj)) (s:Shared) (σ:St) (H:Hp) (Q:Bool->Hp->Prop),Inv X pins σ H s->t σ H Q->wpAny (model X.prog X.w) X.A (isTrue e X.env whole) (TP X pins σ Q) X.xe s
theorem PW.pt {X:Cx} {e:Expr} {t:TT} (h:PW X e t):PT X e t:=h _
def PA (X:Cx) (es:List Expr) (t:TA):Prop :=
 ∀ (pos:Pos) (pins:List (Addr × Obj)) (s:Shared) (σ:St) (H:Hp) (Q:List V->Hp->Prop),Inv X pins σ H s->t σ H Q->wpAny (model X.prog X.w) X.A (spliced (backTo pos (starEach es X.env))) (AP X pins σ Q) X.xe s
def PS (X:Cx) (st:Stmt) (t:TS):Prop :=
 ∀ (pins:List (Addr × Obj)) (s:Shared) (σ:St) (H:Hp) (D:Ends),Inv X pins σ H s->t D σ H->wpAny (model X.prog X.w) X.A (exec st X.env) (SP X pins D) X.xe s
def Gn (X:Cx) (st:List Stmt) (t:TS):Prop :=
 ∀ (pins:List (Addr × Obj)) (s:Shared) (σ:St) (H:Hp) (D:Ends),Inv X pins σ H s->t D σ H->wpAny (model X.prog X.w) X.A (execs st X.env) (SP X pins D) X.xe s
theorem d7 {α:Type} {t:Sem α} {Q Q':α->Shared->Prop} {M:Model} {A:Around} {E:Value->Shared->Prop} {s:Shared} (h:wpAny M A t Q E s) (hQ:∀ a s,Q a s->Q' a s):wpAny M A t Q' E s:=wpAny_mono h hQ fun _ _ x=>x
end L2
namespace L2
open PySem PySem.Spec PyProof.Rows
section
variable {X:Cx}
def aeI (i:Nat):TE:=fun σ H Q=>∃ v,σ[i]?=some (some v)/\Q v H
def tC (v:V):TE:=fun _ H Q=>Q v H
theorem Xo {i:Nat} {x:Str} {pos:Pos} (hN:X.N[i]?=some x) (hv:Vis X.env.scope x) (hd:(x == ("__debug__" : Str))=false:=by decide) (hcd:(x == ("__classdict__" : Str))=false:=by decide):PE X (.Name x pos) (aeI i):=by
 intro pins s σ H Q I h
 obtain ⟨v,e,h⟩:=h
 obtain ⟨m,hn,hl⟩:=I.loc
 obtain ⟨u,r,l⟩:=hl i x v hN e hv
 have fin:EP X pins σ Q u s:=⟨v,H,I,r,h⟩
 rcases l with ⟨hk,hm⟩ | ⟨hk,c,hc,hcell⟩
 . exact wpAny_Name (wpAny_loadName_local I.ok.kind hk hn hm fin) hd
 . rcases hk with hk | hk
   . exact wpAny_Name (wpAny_loadName_cell I.ok.kind hk hc hcell fin) hd
   . exact wpAny_Name (wpAny_loadName_free I.ok.kind hk hc hcell fin hcd) hd
theorem aA {i j pos}:PE X (.Constant (.int i) j pos) (tC (.int i)):=fun _ _ _ H _ I h=>wpAny_Constant_int ⟨.int i,H,I.tok _,⟨_,rfl⟩,h⟩
theorem iQ {b j pos}:PE X (.Constant (.bool b) j pos) (tC (.bl b)):=fun _ _ _ H _ I h=>Constant_bool ⟨.bl b,H,I,rfl,h⟩
theorem tK {j pos}:PE X (.Constant .none j pos) (tC .non):=fun _ _ _ H _ I h=>Constant_none ⟨.non,H,I,rfl,h⟩
theorem bJ {x j pos}:PE X (.Constant (.str x) j pos) (tC (.str x)):=fun _ _ _ H _ I h=>Calls.Constant_str ⟨.str x,H,I.tok _,⟨_,rfl⟩,h⟩
def Gl (X:Cx) (x:Str):Prop:=X.env.kindOf x=some .globalImplicit
theorem Jl {E:Value->Shared->Prop} {pins:List (Addr × Obj)} {s:Shared} {σ:St} {H:Hp} {x:Str} {u:Value} {pos:Pos} {Q:Value->Shared->Prop} (I:Inv X pins σ H s) (hg:Gl X x) (hm:X.mg x=some u) (h:Q u s)
   (hd:(x == ("__debug__" : Str))=false:=by decide):wpAny (model X.prog X.w) X.A (eval (.Name x pos) X.env) Q E s :=
 Calls.Name_function_global I.ok.kind hg (Calls.loadGlobal_global (by rw [I.ok.glob]; exact I.mod.glob.keeps I.bk) hm h) hd
theorem qC {E:Value->Shared->Prop} {pins:List (Addr × Obj)} {s:Shared} {σ:St} {H:Hp} {x:Str} {u:Value} {pos:Pos} {Q:Value->Shared->Prop} (I:Inv X pins σ H s) (hg:Gl X x) (hm:X.mg x=none) (hv:bootBuiltins x=some u) (h:Q u s)
   (hn:x≠"__name__":=by decide) (hd:(x == ("__debug__" : Str))=false:=by decide):wpAny (model X.prog X.w) X.A (eval (.Name x pos) X.env) Q E s:=by
 obtain ⟨mb,h1,h2⟩:=I.mod.blt
 exact Calls.Name_function_global I.ok.kind hg (Calls.loadGlobal_builtin (by rw [I.ok.glob]; exact I.mod.glob.keeps I.bk) hm (by rw [I.ok.blt]; exact h1.keeps I.bk) ((h2 x hn).trans hv) h) hd
theorem vG {x:Str} {v:V} {u:Value} {pos:Pos} (hg:Gl X x) (hm:X.mg x=some u) (r:RelV v u) (hd:(x == ("__debug__" : Str))=false:=by decide):PE X (.Name x pos) (tC v) :=
 fun _ _ _ H _ I h=>Jl I hg hm ⟨v,H,I,r,h⟩ hd
theorem jO {x:Str} {v:V} {u:Value} {pos:Pos} (hg:Gl X x) (hm:X.mg x=none) (hv:bootBuiltins x=some u) (r:RelV v u) (hn:x≠"__name__":=by decide) (hd:(x == ("__debug__" : Str))=false:=by decide):PE X (.Name x pos) (tC v) :=
 fun _ _ _ H _ I h=>qC I hg hm hv ⟨v,H,I,r,h⟩ hn hd
variable {a b:Expr} {ta tb:TE} {pos:Pos}
def PC (X:Cx) (op:CmpOp) (a b:Expr) (t:TE):Prop :=
 ∀ (pins:List (Addr × Obj)) (s:Shared) (σ:St) (H:Hp) (Q:VK),Inv X pins σ H s->t σ H Q ->
   wpAny (model X.prog X.w) X.A (eval a X.env) (fun v s₁=>wpAny (model X.prog X.w) X.A (eval b X.env) (fun u s₂=>wpAny (model X.prog X.w) X.A (compareOp op v u) (EP X pins σ Q) X.xe s₂) X.xe s₁) X.xe s
theorem Df (b:Expr) {op:CmpOp} (h:op≠.In) (h2:op≠.NotIn):behindInMarks op b=false:=by
 have e1:(op == CmpOp.In)=false:=by cases op <;> first | rfl | exact absurd rfl h
 have e2:(op == CmpOp.NotIn)=false:=by cases op <;> first | rfl | exact absurd rfl h2
 cases b <;> simp [behindInMarks,e1,e2]
def aeJ (ta:TE):TE:=fun σ H Q=>ta σ H fun x H1=>Q (.bl (decide (x=.non))) H1
def Wh (ta:TE):TE:=fun σ H Q=>ta σ H fun x H1=>Q (.bl (!decide (x=.non))) H1
theorem RelV.Dg {x:V} {v:Value} (r:RelV x v):(v == Value.none)=decide (x=.non):=by
 cases x with
 | non=>cases r; rfl
 | bl _=>cases r; rfl
 | int _=>obtain ⟨t,rfl⟩:=r; rfl
 | str _=>obtain ⟨t,rfl⟩:=r; rfl
 | N8 _=>obtain ⟨t,rfl⟩:=r; rfl
 | flt _=>obtain ⟨t,rfl⟩:=r; rfl
 | ref _=>cases r; rfl
 | ty _=>cases r; rfl
theorem Xp {j pos'} (ha:PE X a ta):PC X .Is a (.Constant .none j pos') (aeJ ta):=by
 intro pins s σ H Q I h
 refine d7 (ha pins s σ H _ I h) fun v s1 ⟨x,H1,I1,r1,q1⟩=>?_
 exact Constant_none (is_none_gen ⟨.bl _,H1,I1,by rw [r1.Dg]; rfl,q1⟩)
theorem Tq {j pos'} (ha:PE X a ta):PC X .IsNot a (.Constant .none j pos') (Wh ta):=by
 intro pins s σ H Q I h
 refine d7 (ha pins s σ H _ I h) fun v s1 ⟨x,H1,I1,r1,q1⟩=>?_
 exact Constant_none (isnot_none_gen ⟨.bl _,H1,I1,by rw [r1.Dg]; rfl,q1⟩)
def tB (t:TE):TT:=fun σ H Q=>t σ H fun x H1=>∃ c,x=.bl c/\Q c H1
theorem vZ {op:CmpOp} {t:TE} (h:PC X op a b t) (h1:behindInMarks op b=false:=by first | exact Df _ (by decide) (by decide) | rfl):PT X (.Compare a [op] [b] pos) (tB t):=by
 intro pins s σ H Q I hw
 refine wpAny_isTrue_Compare1 (d7 (h pins s σ H _ I hw) fun v s1 h1=>d7 h1 fun u s2 h2=>d7 h2 fun c s3 ⟨x,H1,I1,r1,q1⟩=>?_) h1
 obtain ⟨d,rfl,q⟩:=q1
 cases r1
 exact wpAny_truthy_bool ⟨H1,I1,q⟩
variable {tA Oa:TT} {rest:List Expr}
def Xq (t u:TT):TT:=fun σ H Q=>t σ H fun c H1=>if c=true then u σ H1 Q else Q false H1
def tOr (t u:TT):TT:=fun σ H Q=>t σ H fun c H1=>if c=true then Q true H1 else u σ H1 Q
def aeK (t:TT):TT:=fun σ H Q=>t σ H fun c H1=>Q (!c) H1
theorem pw_and1 (ha:PT X a tA):PW X (.BoolOp .And [a] pos) tA:=by
 intro wh pins s σ H Q I h
 refine isTrue_and (d7 (ha pins s σ H Q I h) fun c s1 e=>?_)
 cases c with
 | true=>exact isTrue_and_nil e
 | false=>exact e
theorem pw_or1 (ha:PT X a tA):PW X (.BoolOp .Or [a] pos) tA:=by
 intro wh pins s σ H Q I h
 refine isTrue_or (d7 (ha pins s σ H Q I h) fun c s1 e=>?_)
 cases c with
 | false=>exact isTrue_or_nil e
 | true=>exact e
theorem pw_and (ha:PT X a tA) (hb:PW X (.BoolOp .And (b :: rest) pos) Oa):PW X (.BoolOp .And (a :: b :: rest) pos) (Xq tA Oa):=by
 intro wh pins s σ H Q I h
 refine isTrue_and (d7 (ha pins s σ H _ I h) fun c s1 ⟨H1,I1,q1⟩=>?_)
 cases c with
 | true=>exact hb wh pins s1 σ H1 Q I1 q1
 | false=>exact ⟨H1,I1,q1⟩
theorem pw_or (ha:PT X a tA) (hb:PW X (.BoolOp .Or (b :: rest) pos) Oa):PW X (.BoolOp .Or (a :: b :: rest) pos) (tOr tA Oa):=by
 intro wh pins s σ H Q I h
 refine isTrue_or (d7 (ha pins s σ H _ I h) fun c s1 ⟨H1,I1,q1⟩=>?_)
 cases c with
 | true=>exact ⟨H1,I1,q1⟩
 | false=>exact hb wh pins s1 σ H1 Q I1 q1
theorem dR (ha:PT X a tA):PT X (.UnaryOp .Not a pos) (aeK tA):=by
 intro pins s σ H Q I h
 exact isTrue_not (ha pins s σ H (fun c H1=>Q (!c) H1) I h)
theorem oJ {op} {t:TE} (h:PE X a t):PE X (.BoolOp op [a] pos) t:=fun pins s σ H Q I hw=>BoolOp_one (h pins s σ H Q I hw)
def tIf (t:TT) (ta tb:TE):TE:=fun σ H Q=>t σ H fun c H1=>if c=true then ta σ H1 Q else tb σ H1 Q
theorem rM {c:Expr} (hc:PT X c tA) (ha:PE X a ta) (hb:PE X b tb):PE X (.IfExp c a b pos) (tIf tA ta tb):=by
 intro pins s σ H Q I h
 refine wpAny_IfExp (d7 (hc pins s σ H _ I h) fun d s1 ⟨H1,I1,q1⟩=>?_)
 cases d with
 | true=>exact ha pins s1 σ H1 Q I1 q1
 | false=>exact hb pins s1 σ H1 Q I1 q1
end
end L2
namespace L2
open PySem PySem.Spec PyProof.Rows
def dw (K:PySem.W.Frag) (H:Hp) (a:Addr) (xs:List V):Prop :=
 Rd H a (.lst xs) ∨
   ∃ (o:Obj) (its:Array Value) (n:Nat),K.lookup a=some o/\o.cls=.type "list"/\o.dict=none/\o.data=.seq its n/\its.size<=sizeLine/\Vals xs its.toList
def bU (K:PySem.W.Frag) (H:Hp) (a:Addr) (xs:List V):Prop :=
 Rd H a (.tup xs) ∨
   ∃ (o:Obj) (its:Array Value) (n:Nat),K.lookup a=some o/\o.cls=.type "tuple"/\o.data=.seq its n/\its.size<=sizeLine/\Vals xs its.toList
def aeL:Value->Option V
 | .none=>some .non
 | .bool b=>some (.bl b)
 | .int i _=>some (.int i)
 | .str x _=>some (.str x)
 | .bytes b _=>some (.N8 b)
 | .float b _=>some (.flt b)
 | .ref a=>some (.ref a)
 | .type n=>some (.ty n)
 | _=>none
theorem RelV.abs {x:V} {u:Value} (r:RelV x u):aeL u=some x:=by
 cases x with
 | non=>cases r; rfl
 | bl _=>cases r; rfl
 | int _=>obtain ⟨t,rfl⟩:=r; rfl
 | str _=>obtain ⟨t,rfl⟩:=r; rfl
 | N8 _=>obtain ⟨t,rfl⟩:=r; rfl
 | flt _=>obtain ⟨t,rfl⟩:=r; rfl
 | ref _=>cases r; rfl
 | ty _=>cases r; rfl
theorem RelV.inj {x y:V} {u:Value} (r:RelV x u) (q:RelV y u):x=y:=Option.some.inj (r.abs.symm.trans q.abs)
theorem Vals.inj:∀ {xs ys:List V} {us:List Value},Vals xs us->Vals ys us->xs=ys
 | _,_,_,.nil,.nil=>rfl
 | _,_,_,.cons r t,.cons r' t'=>by rw [r.inj r',Vals.inj t t']
section
variable {X:Cx} {pins:List (Addr × Obj)} {σ:St} {H:Hp} {s:Shared} {a:Addr} {xs ys:List V}
theorem dw.of {K:PySem.W.Frag} (h:H a=some (.lst xs)):dw K H a xs:=.inl (.inl h)
theorem bU.of {K:PySem.W.Frag} (h:H a=some (.tup xs)):bU K H a xs:=.inl (.inl h)
theorem Inv.list (I:Inv X pins σ H s) (h:dw X.K H a xs):∃ its:List Value,Vals xs its/\PlainL s.heap a its.toArray/\xs.length<=sizeLine:=by
 rcases h with h | ⟨o,its,n,hk,hc,hd,hs,hz,r⟩
 . obtain ⟨z,its,n,r,e⟩:=h.ok I.hok
   exact ⟨its,r,⟨_,n,e,rfl,rfl,rfl⟩,z⟩
 . refine ⟨its.toList,r,⟨o,n,I.Dc a o hk,hc,hd,by simpa using hs⟩,?_⟩
   have e:=r.length
   simp only [Array.length_toList] at e
   omega
theorem Inv.tuple (I:Inv X pins σ H s) (h:bU X.K H a xs):∃ its:List Value,Vals xs its/\IsTup s.heap a its.toArray/\xs.length<=sizeLine:=by
 rcases h with h | ⟨o,its,n,hk,hc,hs,hz,r⟩
 . obtain ⟨z,its,r,p⟩:=h.ok I.hok
   exact ⟨its,r,p.to,z⟩
 . refine ⟨its.toList,r,⟨o,I.Dc a o hk,hc,n,by simpa using hs⟩,?_⟩
   have e:=r.length
   simp only [Array.length_toList] at e
   omega
theorem Inv.Oo (I:Inv X pins σ H s) (h:dw X.K H a xs) (h':dw X.K H a ys):xs=ys:=by
 obtain ⟨its,r,⟨o,n,e,_,_,d⟩,_⟩:=I.list h
 obtain ⟨its',r',⟨o',n',e',_,_,d'⟩,_⟩:=I.list h'
 rw [e] at e'; cases e'
 rw [d] at d'
 injection d' with d1 _
 have:its=its':=by simpa using congrArg Array.toList d1
 subst this
 exact r.inj r'
theorem Inv.KD (I:Inv X pins σ H s) (h:bU X.K H a xs) (h':bU X.K H a ys):xs=ys:=by
 obtain ⟨its,r,⟨o,e,_,n,d⟩,_⟩:=I.tuple h
 obtain ⟨its',r',⟨o',e',_,n',d'⟩,_⟩:=I.tuple h'
 rw [e] at e'; cases e'
 rw [d] at d'
 injection d' with d1 _
 have:its=its':=by simpa using congrArg Array.toList d1
 subst this
 exact r.inj r'
end
abbrev Cx.wish (X:Cx) (E:Value->Shared->Prop):Cx:={ X with xe:=E }
abbrev Cx.nox (X:Cx):Cx:=X.wish fun _ _=>False
theorem Cx.Ok.wish {X:Cx} (ok:X.Ok) (E:Value->Shared->Prop):(X.wish E).Ok :=
 ⟨ok.mod,ok.kind,ok.glob,ok.blt,ok.above,ok.inj,ok.has,ok.cab,ok.hd,ok.frames,ok.stk,ok.exf,ok.bs,ok.Wf,ok.Om,ok.KC,ok.vY,ok.frf⟩
theorem Cx.Ok.mU {X:Cx} {E:Value->Shared->Prop} (ok:(X.wish E).Ok):X.Ok :=
 ⟨ok.mod,ok.kind,ok.glob,ok.blt,ok.above,ok.inj,ok.has,ok.cab,ok.hd,ok.frames,ok.stk,ok.exf,ok.bs,ok.Wf,ok.Om,ok.KC,ok.vY,ok.frf⟩
section
variable {X:Cx} {pins:List (Addr × Obj)} {σ:St} {H:Hp} {s:Shared} {E:Value->Shared->Prop}
theorem Inv.wish (I:Inv X pins σ H s) (E:Value->Shared->Prop):Inv (X.wish E) pins σ H s:=⟨I.ok.wish E,I.os,I.bare,I.base,I.loc,I.cell,I.free,I.n6,I.pin,I.hok,I.len⟩
theorem Inv.mU (I:Inv (X.wish E) pins σ H s):Inv X pins σ H s:=⟨I.ok.mU,I.os,I.bare,I.base,I.loc,I.cell,I.free,I.n6,I.pin,I.hok,I.len⟩
theorem SP.mU {D:Ends} {f:Flow} {s':Shared} (h:SP (X.wish E) pins D f s'):SP X pins D f s':=by
 cases f with
 | next=>obtain ⟨σ',H',I,q⟩:=h; exact ⟨σ',H',I.mU,q⟩
 | brk=>obtain ⟨σ',H',I,q⟩:=h; exact ⟨σ',H',I.mU,q⟩
 | cont=>obtain ⟨σ',H',I,q⟩:=h; exact ⟨σ',H',I.mU,q⟩
 | ret u=>obtain ⟨v,σ',H',I,r,q⟩:=h; exact ⟨v,σ',H',I.mU,r,q⟩
theorem Gn.nox {st:List Stmt} {t:TS} (h:Gn X.nox st t):Gn X st t:=fun pins s σ H D I hw =>
 wpAny_mono (h pins s σ H D (I.wish _) hw) (fun _ _ q=>q.mU) fun _ _ z=>False.elim z
end
section
variable {X:Cx} {st:Stmt} {rest:List Stmt} {t u:TS} {e:Expr} {te:TE} {pos:Pos}
def Wi:TS:=fun D σ H=>D.nx σ H
def oG (t u:TS):TS:=fun D σ H=>t { D with nx:=u D } σ H
theorem bH:Gn X [] Wi:=fun _ _ σ H _ I h=>wpAny_execs_nil ⟨σ,H,I,h⟩
theorem au (h1:PS X st t) (h2:Gn X rest u):Gn X (st :: rest) (oG t u):=by
 intro pins s σ H D I h
 refine wpAny_execs_cons (d7 (h1 pins s σ H { D with nx:=u D } I h) fun f s1 q=>?_)
 cases f with
 | next =>
   obtain ⟨σ',H',I',q⟩:=q
   exact h2 pins s1 σ' H' D I' q
 | ret v=>exact q
 | brk=>exact q
 | cont=>exact q
theorem aF (h1:PS X st t):Gn X [st] t:=by
 intro pins s σ H D I h
 refine wpAny_execs_cons (d7 (h1 pins s σ H D I h) fun f s1 q=>?_)
 cases f with
 | next=>exact wpAny_execs_nil q
 | ret v=>exact q
 | brk=>exact q
 | cont=>exact q
theorem Inv.quiet {pins:List (Addr × Obj)} {σ:St} {H:Hp} {s:Shared} (I:Inv X pins σ H s):interactive X.env=false:=by simp [interactive,I.ok.kind]
def aaU (te:TE):TS:=fun D σ H=>te σ H fun _ H1=>D.nx σ H1
theorem mV (he:PE X e te) (hs:swapsWith e none pos.line X.env=pure false:=by rfl):PS X (.Expr e pos) (aaU te):=by
 intro pins s σ H D I h
 exact wpAny_Expr_any (d7 (he pins s σ H _ I h) fun v s1 ⟨x,H1,I1,r1,q1⟩=>⟨σ,H1,I1,q1⟩) I.quiet hs
def Xr (te:TE):TS:=fun D σ H=>te σ H D.rt
theorem aW (he:PE X e te):PS X (.Return (some e) pos) (Xr te):=by
 intro pins s σ H D I h
 exact wpAny_Return_some (d7 (he pins s σ H _ I h) fun v s1 ⟨x,H1,I1,r1,q1⟩=>⟨x,σ,H1,I1,r1,q1⟩)
def Ar (c:TT) (t u:TS):TS:=fun D σ H=>c σ H fun b H1=>if b=true then t D σ H1 else u D σ H1
theorem dz {c:Expr} {a b:List Stmt} {tc:TT} (hc:PT X c tc) (ha:Gn X a t) (hb:Gn X b u):PS X (.If c a b pos) (Ar tc t u):=by
 intro pins s σ H D I h
 refine wpAny_If (d7 (hc pins s σ H _ I h) fun d s1 ⟨H1,I1,q1⟩=>?_)
 cases d with
 | true=>exact ha pins s1 σ H1 D I1 q1
 | false=>exact hb pins s1 σ H1 D I1 q1
def Xu:TS:=fun _ _ _=>False
theorem zf {sts:List Stmt}:Gn X sts Xu:=fun _ _ _ _ _ _ h=>h.elim
end
abbrev TG:=V->St->Hp->(St->Hp->Prop)->Prop
abbrev Tc:=List V->St->Hp->(St->Hp->Prop)->Prop
def PG (X:Cx) (target:Expr) (t:TG):Prop :=
 ∀ (pins:List (Addr × Obj)) (s:Shared) (σ:St) (H:Hp) (v:V) (u:Value) (Q:St->Hp->Prop),Inv X pins σ H s->RelV v u->t v σ H Q ->
   wpAny (model X.prog X.w) X.A (assign target X.env u) (fun _ s'=>∃ σ' H',Inv X pins σ' H' s'/\Q σ' H') X.xe s
def PGs (X:Cx) (ts:List Expr) (t:Tc):Prop :=
 ∀ (pins:List (Addr × Obj)) (s:Shared) (σ:St) (H:Hp) (vs:List V) (us:List Value) (Q:St->Hp->Prop),Inv X pins σ H s->Vals vs us->t vs σ H Q ->
   wpAny (model X.prog X.w) X.A (assignInOrder ((assignEach ts X.env).map (·.2)) us) (fun _ s'=>∃ σ' H',Inv X pins σ' H' s'/\Q σ' H') X.xe s
abbrev Xv:=V->V->V->Hp->(Hp->Prop)->Prop
def Xw (X:Cx) (t:Xv):Prop :=
 ∀ (pins:List (Addr × Obj)) (s:Shared) (σ:St) (H:Hp) (o i v:V) (ov iv u:Value) (Q:Hp->Prop),Inv X pins σ H s->RelV o ov->RelV i iv->RelV v u->t o i v H Q ->
   wpAny (model X.prog X.w) X.A (setItem ov iv u) (fun _ s'=>∃ H',Inv X pins σ H' s'/\Q H') X.xe s
section
variable {X:Cx} {pos:Pos}
def uZ (i:Nat):TG:=fun v σ H Q=>Q (σ.set i (some v)) H
theorem aC {i:Nat} {x:Str} (hN:X.N.Nodup) (hi:X.N[i]?=some x) (hx:Loc X.env.scope x) (hf:X.fn x=true∨X.env.scope.names.lookup x=some .local:=by first | exact .inl rfl | exact .inr rfl | assumption):PG X (.Name x pos) (uZ i):=by
 intro pins s σ H v u Q I r h
 exact wpAny_assign_Name (rK I hN hi hx r (fun s' I'=>⟨_,H,I',h⟩) hf)
def aaW:Tc:=fun vs σ H Q=>vs=[]/\Q σ H
def Wj (t:TG) (u:Tc):Tc:=fun vs σ H Q=>∃ v r,vs=v :: r/\t v σ H fun σ' H'=>u r σ' H' Q
theorem cN:PGs X [] aaW:=by
 intro pins s σ H vs us Q I r h
 obtain ⟨e,h⟩:=h
 subst e
 cases r
 exact assignInOrder_nil ⟨σ,H,I,h⟩
theorem aH {e:Expr} {es:List Expr} {t:TG} {u:Tc} (h1:PG X e t) (h2:PGs X es u)
   (hs:(assignEach (e :: es) X.env).map (·.2)=assign e X.env :: (assignEach es X.env).map (·.2):=by rfl):PGs X (e :: es) (Wj t u):=by
 intro pins s σ H vs us Q I r h
 obtain ⟨v,vr,e1,h⟩:=h
 subst e1
 cases r with
 | cons r rr =>
   rw [hs]
   refine assignInOrder_cons (d7 (h1 pins s σ H _ _ _ I r h) fun _ s1 ⟨σ1,H1,I1,q1⟩=>?_)
   exact h2 pins s1 σ1 H1 _ _ Q I1 rr q1
def aaX (K:PySem.W.Frag) (n:Nat) (t:Tc):TG:=fun v σ H Q=>∃ a xs,v=.ref a/\bU K H a xs/\xs.length=n/\t xs σ H Q
theorem dU {es:List Expr} {k:Nat} {t:Tc} {n:Nat} (hc:X.calm=true) (h:PGs X es t)
   (hn:(assignEach es X.env).length=n:=by rfl) (hst:(assignEach es X.env).findIdx? (·.1)=none:=by rfl):PG X (.Tuple es k pos) (aaX X.K n t):=by
 intro pins s σ H v u Q I r hw
 obtain ⟨a,xs,e1,hq,hl,hw⟩:=hw
 subst e1
 cases r
 obtain ⟨its,rv,ht,hz⟩:=I.tuple hq
 refine assign_Tuple_tuple (I.ok.hd hc) ht (by simp [hn,<- hl,rv.length]) hst fun h' hx=>?_
 have I1:Inv X pins σ H { s with heap:=h' }:=I.kept (t':=s.toks) fun b o e=>hx b o (Nat.ne_of_lt (Heap.lt_size e)) e
 exact h pins _ σ H xs _ Q I1 (by simpa using rv) hw
def aeM (to ti:TE) (t:Xv):TG:=fun v σ H Q=>to σ H fun o H1=>ti σ H1 fun i H2=>t o i v H2 fun H3=>Q σ H3
theorem Xx {o i:Expr} {to ti:TE} {t:Xv} (ho:PE X o to) (hi:PE X i ti) (hs:Xw X t)
   (ha:∀ v,assign (.Subscript o i pos) X.env v=(do
     let ov <- holding [v] (eval o X.env)
     let iv <- holding [v,ov] (eval i X.env)
     standAt pos
     holding [v,ov,iv] (setItem ov iv v)
     release [v,ov,iv] []):=by intro _; rfl):PG X (.Subscript o i pos) (aeM to ti t):=by
 intro pins s σ H v u Q I r h
 rw [ha]
 refine wpAny_bind (wpAny_holding (d7 (ho pins s σ H _ I h) fun ov s1 ⟨x,H1,I1,r1,q1⟩=>?_))
 refine wpAny_bind (wpAny_holding (d7 (hi pins s1 σ H1 _ I1 q1) fun iv s2 ⟨y,H2,I2,r2,q2⟩=>?_))
 refine wpAny_bind (wpAny_standAt (wpAny_bind (wpAny_holding (d7 (hs pins s2 σ H2 x y v ov iv u _ I2 r1 r2 r q2) fun _ s3 ⟨H3,I3,q3⟩=>?_))))
 exact wpAny_release ⟨σ,H3,I3,q3⟩
def qD (te:TE) (g:TG):TS:=fun D σ H=>te σ H fun x H1=>g x σ H1 D.nx
theorem jZ {tg e:Expr} {te:TE} {g:TG} (he:PE X e te) (hg:PG X tg g) (hs:swapsWithSole [tg] e pos.line X.env=pure false:=by rfl) (hw:swappedStores [tg] e X.env=pure none:=by rfl)
   (h1:(assignEach [tg] X.env).map (·.2)=[assign tg X.env]:=by rfl):PS X (.Assign [tg] e pos) (qD te g):=by
 intro pins s σ H D I h
 refine wpAny_Assign_stores (d7 (he pins s σ H _ I h) fun v s1 ⟨x,H1,I1,r1,q1⟩=>?_) hs hw
 rw [h1]
 exact d7 (hg pins s1 σ H1 x v _ I1 r1 q1) fun _ s2 q=>q
theorem aX {i:Nat} {x:Str} {e:Expr} {te:TE} {pos':Pos} (hN:X.N.Nodup) (hi:X.N[i]?=some x) (hx:Loc X.env.scope x) (he:PE X e te) (hs:swapsWith e (some (.Name x pos')) pos.line X.env=pure false:=by rfl) (hf:X.fn x=true∨X.env.scope.names.lookup x=some .local:=by first | exact .inl rfl | exact .inr rfl | assumption) :
   PS X (.Assign [.Name x pos'] e pos) (qD te (uZ i)):=by
 intro pins s σ H D I h
 refine wpAny_Assign_Name (d7 (he pins s σ H _ I h) fun v s1 ⟨y,H1,I1,r1,q1⟩=>?_) hs
 exact rK I1 hN hi hx r1 (fun s2 I2=>⟨_,H1,I2,q1⟩) hf
def aeN (i j:Nat) (ta:TA):TS:=fun D σ H=>ta σ H fun vs H1=>∃ v w,vs=[v,w]/\D.nx ((σ.set i (some v)).set j (some w)) H1
theorem Xy {i j:Nat} {x y:Str} {a b:Expr} {ta:TA} {px py pt:Pos} {kt k2 pt2} (hc:X.calm=true) (hN:X.N.Nodup) (hi:X.N[i]?=some x) (hj:X.N[j]?=some y) (hij:i≠j)
   (hx:X.env.scope.names.lookup x=some .local) (hy:X.env.scope.names.lookup y=some .local) (ha:PA X [a,b] ta)
   (hw:swappedStores [.Tuple [.Name x px,.Name y py] kt pt] (.Tuple [a,b] k2 pt2) X.env=pure (some [x,y]))
   (hs:swapsWithSole [.Tuple [.Name x px,.Name y py] kt pt] (.Tuple [a,b] k2 pt2) pos.line X.env=pure false:=by rfl) :
   PS X (.Assign [.Tuple [.Name x px,.Name y py] kt pt] (.Tuple [a,b] k2 pt2) pos) (aeN i j ta):=by
 intro pins s σ H D I h
 rw [exec_Assign_arm]
 refine wpAny_bind (wpAny_standAt ?_)
 rw [hs]
 refine wpAny_bind (wpAny_pure ?_)
 rw [if_neg (by decide)]
 refine wpAny_bind (Tuple_ (d7 (ha _ pins s σ H _ I h) fun us s1 ⟨vs,H1,I1,r1,q1⟩=>?_))
 obtain ⟨v,w,e1,q1⟩:=q1
 subst e1
 obtain ⟨u1,u2,rfl,rv,KH⟩:∃ u1 u2,us=[u1,u2]/\RelV v u1/\RelV w u2:=by
   cases r1 with
   | cons p q =>
     cases q with
     | cons p' q' =>
       cases q'
       exact ⟨_,_,rfl,p,p'⟩
 refine wpAny_newObj_type ?_ (by show 2<=sizeLine; decide)
 have I2:Inv X pins σ H1 { s1 with heap:=s1.heap.push { cls:=.type "tuple",data:=.seq [u1,u2].toArray } }:=I1.kept (t':=s1.toks) fun b o e=>Heap.get?_push_of_some _ e
 rw [hw]
 refine wpAny_bind (wpAny_pure ?_)
 show wpAny (model X.prog X.w) X.A (do rule "assign.swapped-stores"; let items <- unpackItems (.ref s1.heap.objs.size) 2 none; assignInOrder [fun v=>bindName X.env y v,fun v=>bindName X.env x v] items.reverse; pure Flow.next) _ _ _
 refine wpAny_bind (wpAny_rule (wpAny_bind (unpackItems_tuple (items:=#[u1,u2]) (I.ok.hd hc) (IsTup.new s1.heap _) fun h' hx'=>?_)))
 have I3:=I2.kept (h':=h') (t':=s1.toks) fun b o e=>hx' b o (Nat.ne_of_lt (Heap.lt_size e)) e
 show wpAny _ _ (assignInOrder [fun v=>bindName X.env y v,fun v=>bindName X.env x v] [u2,u1] >>= fun _=>pure Flow.next) _ _ _
 refine wpAny_bind (assignInOrder_cons (wpAny_bindName (rK I3 hN hj (.inl hy) KH (fun s2 I4=>?_) (.inr hy))))
 refine assignInOrder_cons (wpAny_bindName (rK I4 hN hi (.inl hx) rv (fun s3 I5=>assignInOrder_nil (wpAny_pure ?_)) (.inr hx)))
 rw [List.set_comm _ _ (Ne.symm hij)] at I5
 exact ⟨_,H1,I5,q1⟩
end
section
variable {X:Cx} {pos:Pos}
end
structure It where
 go:Nat->Hp->Prop
 Oq:Nat->Hp->V->Hp->Prop
 stop:Nat->Hp->Prop
def kJ (X:Cx) (pins:List (Addr × Obj)) (H:Hp) (b:Addr):Prop :=
 H b=none/\b≠X.env.locals/\b ∉ X.fs/\(b∈X.ex∨X.s₀.heap.objs.size<=b)/\(∀ x c,X.env.cells.lookup x=some c->c≠b)/\∀ p∈X.pn++pins,p.1≠b
theorem Inv.Av {X:Cx} {pins:List (Addr × Obj)} {σ:St} {H H':Hp} {s:Shared} {b:Addr} (I:Inv X pins σ H s) (hb:s.heap.objs.size<=b) (hn:H' b=none):kJ X pins H' b:=by
 refine ⟨hn,Nat.ne_of_gt (Nat.lt_of_lt_of_le I.lt hb),I.aeG hb,.inr (Nat.le_trans I.sz hb),fun x c e z=>?_,fun p hp z=>?_⟩
 . obtain ⟨v,q⟩:=I.cell x c e
   exact absurd (Nat.lt_of_lt_of_le q.lt (by rw [z]; exact hb)) (Nat.lt_irrefl _)
 . exact absurd (Nat.lt_of_lt_of_le (Heap.lt_size (I.pin p hp).1) (by rw [z]; exact hb)) (Nat.lt_irrefl _)
structure Turn (P:Program) (w:World) (K:PySem.W.Frag) (tg:Expr) (J:It) (fp:List Addr) (it:Addr) (tn:Nat->Heap->Prop):Prop where
 mem:it∈fp
 obj:∀ i h,tn i h->∀ b∈fp,∃ o,h.get? b=some o/\∀ v,o.data≠.cell v
 keep:∀ i h h',tn i h->(∀ b∈fp,∀ o,h.get? b=some o->h'.get? b=some o)->tn i h'
 item:∀ (X:Cx),X.prog=P->X.w=w->X.K=K->X.calm=true->∀ (i:Nat) (pins:List (Addr × Obj)) (s:Shared) (σ:St) (H:Hp) (E:Value->Shared->Prop),Inv X pins σ H s->(∀ b∈fp,kJ X pins H b)->tn i s.heap->J.go i H ->
   wpAny (model P w) X.A (pyNext (.ref it)) (fun r s1=>∃ u,r=some u /\
     wpAny (model P w) X.A (letOwnedTupleGo tg (.ref it) u) (fun _ s2=>∃ x H',Inv X pins σ H' s2/\RelV x u/\J.Oq i H x H'/\tn (i+1) s2.heap/\∀ b∈fp,H' b=none) E s1) E s
 done:∀ (X:Cx),X.prog=P->X.w=w->X.K=K->X.calm=true->∀ (i:Nat) (pins:List (Addr × Obj)) (s:Shared) (σ:St) (H:Hp) (E:Value->Shared->Prop),Inv X pins σ H s->(∀ b∈fp,kJ X pins H b)->tn i s.heap->J.stop i H ->
   wpAny (model P w) X.A (pyNext (.ref it)) (fun r s1=>r=none/\Inv X pins σ H s1) E s
 self:∀ (A:Around) (i:Nat) (s:Shared) (Q:Value->Shared->Prop) (E:Value->Shared->Prop),tn i s.heap->Q (.ref it) s->wpAny (model P w) A (pyIter (.ref it)) Q E s
abbrev TI:=St->Hp->(It->Hp->Prop)->Prop
def PIE (X:Cx) (pins:List (Addr × Obj)) (σ:St) (tg:Expr) (R:It->Hp->Prop) (itv:Value) (s2:Shared):Prop :=
 ∃ (it:Addr) (fp:List Addr) (tn:Nat->Heap->Prop) (J:It) (H':Hp),itv=.ref it/\Inv X pins σ H' s2/\Turn X.prog X.w X.K tg J fp it tn/\tn 0 s2.heap/\(∀ b∈fp,kJ X pins H' b)/\R J H'
def PI (X:Cx) (tg iter:Expr) (wi:TI):Prop :=
 ∀ (pins:List (Addr × Obj)) (s:Shared) (σ:St) (H:Hp) (R:It->Hp->Prop),Inv X pins σ H s->wi σ H R ->
   wpAny (model X.prog X.w) X.A (eval iter X.env) (fun v s1=>wpAny (model X.prog X.w) X.A (pyIter v) (PIE X pins σ tg R) X.xe s1) X.xe s
theorem zj {M:Model} {A:Around} {E:Value->Shared->Prop} {s:Shared} {tg:Expr} {it:Addr} {u:Value} {o:Obj} {n:String} {vs:Array Value} {Q:Unit->Shared->Prop} (ho:s.heap.get? it=some o) (hc:o.cls=.type n) (hd:o.data=.fields vs)
   (hn:["enumerate","zip","dict_itemiterator","dict_reverseitemiterator","odict_iterator","itertools.zip_longest","itertools.pairwise"].contains n=false) (hQ:Q () s):wpAny M A (letOwnedTupleGo tg (.ref it) u) Q E s:=by
 unfold letOwnedTupleGo
 cases tg <;> first
   | exact wpAny_pure hQ
   | (cases u <;> first
       | exact wpAny_pure hQ
       | (refine wpAny_bind (wpAny_load ho ?_)
          rw [hc,hd]
          show wpAny M A (if (["enumerate","zip","dict_itemiterator","dict_reverseitemiterator","odict_iterator","itertools.zip_longest","itertools.pairwise"].contains n && vs[0]? == some (rawInt _))=true then _ else _) Q E s
          rw [if_neg (by intro h; rw [hn,Bool.false_and] at h; cases h)]
          exact wpAny_pure hQ))
def Wk (K:PySem.W.Frag) (a:Addr):It :=
 ⟨fun i H=>∃ xs x,dw K H a xs/\xs[i]?=some x,fun i H x H'=>H'=H/\∀ xs,dw K H a xs->xs[i]?=some x,fun i H=>∃ xs,dw K H a xs/\xs.length<=i⟩
def Td (K:PySem.W.Frag) (a:Addr):It :=
 ⟨fun i H=>∃ xs x,bU K H a xs/\xs[i]?=some x,fun i H x H'=>H'=H/\∀ xs,bU K H a xs->xs[i]?=some x,fun i H=>∃ xs,bU K H a xs/\xs.length<=i⟩
def Xz (lo:Int) (n:Nat):It:=⟨fun i _=>i<n,fun i H x H'=>H'=H/\x=.int (lo+i),fun i _=>n<=i⟩
theorem KJ {P:Program} {w:World} {K:PySem.W.Frag} {tg:Expr} (a it:Addr):Turn P w K tg (Wk K a) [it] it (fun i h=>h.IsListIter it a i) where
 mem:=by simp
 obj:=fun i h st b hb=>by
   have e:b=it:=by simpa using hb
   subst e
   obtain ⟨o,e,c,d⟩:=st
   exact ⟨o,e,fun v z=>by rw [d] at z; cases z⟩
 keep:=fun i h h' st k=>st.at fun o e=>k it (by simp) o e
 item:=by
   intro X hP hw hK hc i pins s σ H E I hf st hg
   subst hP hw hK
   obtain ⟨xs,x,hq,hx⟩:=hg
   obtain ⟨its,rv,p,hz⟩:=I.list hq
   obtain ⟨u,hu,ru⟩:=rv.get hx
   obtain ⟨f0,f1,f2,f3,f4,f5⟩:=hf it (by simp)
   refine wpAny_pyNext_list_item st p.isList (x:=u) (by simpa using hu) fun h' st' sb=>?_
   have I1:Inv X pins σ H { s with heap:=h' }:=I.turned (t':=s.toks) (fun b o hb e=>(sb.2 b hb).trans e) f0 f1 f3 f4 f5
   obtain ⟨o,e,c,d⟩:=id st'
   exact ⟨u,rfl,zj (s:={ s with heap:=h' }) e c d (by decide) ⟨x,H,I1,ru,⟨rfl,fun ys hy=>by rw [I.Oo hy hq]; exact hx⟩,st',fun b hb=>(hf b hb).1⟩⟩
 done:=by
   intro X hP hw hK hc i pins s σ H E I hf st hg
   subst hP hw hK
   obtain ⟨xs,hq,hx⟩:=hg
   obtain ⟨its,rv,p,hz⟩:=I.list hq
   obtain ⟨f0,f1,f2,f3,f4,f5⟩:=hf it (by simp)
   have hl:=rv.length
   exact wpAny_pyNext_list_end (I.ok.hd hc) st p.isList (by simp; omega) fun h' eb=>⟨rfl,I.turned (t':=s.toks) (fun b o hb e=>eb b o hb e) f0 f1 f3 f4 f5⟩
 self:=fun _ _ _ _ _ st h=>wpAny_pyIter_listiter st h
theorem Gp {P:Program} {w:World} {K:PySem.W.Frag} {tg:Expr} (a it:Addr):Turn P w K tg (Td K a) [it] it (fun i h=>h.IsTupleIter it a i) where
 mem:=by simp
 obj:=fun i h st b hb=>by
   have e:b=it:=by simpa using hb
   subst e
   obtain ⟨o,e,c,d⟩:=st
   exact ⟨o,e,fun v z=>by rw [d] at z; cases z⟩
 keep:=fun i h h' st k=>st.at fun o e=>k it (by simp) o e
 item:=by
   intro X hP hw hK hc i pins s σ H E I hf st hg
   subst hP hw hK
   obtain ⟨xs,x,hq,hx⟩:=hg
   obtain ⟨its,rv,p,hz⟩:=I.tuple hq
   obtain ⟨u,hu,ru⟩:=rv.get hx
   obtain ⟨f0,f1,f2,f3,f4,f5⟩:=hf it (by simp)
   refine wpAny_pyNext_tuple_item st (show s.heap.IsTuple a its.toArray from p) (x:=u) (by simpa using hu) fun h' st' sb=>?_
   have I1:Inv X pins σ H { s with heap:=h' }:=I.turned (t':=s.toks) (fun b o hb e=>(sb.2 b hb).trans e) f0 f1 f3 f4 f5
   obtain ⟨o,e,c,d⟩:=id st'
   exact ⟨u,rfl,zj (s:={ s with heap:=h' }) e c d (by decide) ⟨x,H,I1,ru,⟨rfl,fun ys hy=>by rw [I.KD hy hq]; exact hx⟩,st',fun b hb=>(hf b hb).1⟩⟩
 done:=by
   intro X hP hw hK hc i pins s σ H E I hf st hg
   subst hP hw hK
   obtain ⟨xs,hq,hx⟩:=hg
   obtain ⟨its,rv,p,hz⟩:=I.tuple hq
   obtain ⟨f0,f1,f2,f3,f4,f5⟩:=hf it (by simp)
   have hl:=rv.length
   exact wpAny_pyNext_tuple_end (I.ok.hd hc) st (show s.heap.IsTuple a its.toArray from p) (by simp; omega) fun h' eb=>⟨rfl,I.turned (t':=s.toks) (fun b o hb e=>eb b o hb e) f0 f1 f3 f4 f5⟩
 self:=fun _ _ _ _ _ st h=>wpAny_pyIter_tupleiter st h
theorem Gq {P:Program} {w:World} {K:PySem.W.Frag} {tg:Expr} (it:Addr) (lo:Int) (n:Nat):Turn P w K tg (Xz lo n) [it] it (fun i h=>IsRangeIter h it (lo+(i:Nat) * 1) ((n:Int)-(i:Nat)) 1) where
 mem:=by simp
 obj:=fun i h st b hb=>by
   have e:b=it:=by simpa using hb
   subst e
   exact ⟨_,st,fun v z=>by
     have z':Data.fields _=Data.cell v:=z
     cases z'⟩
 keep:=fun i h h' st k=>k it (by simp) _ st
 item:=by
   intro X hP hw hK hc i pins s σ H E I hf st hg
   subst hP hw hK
   obtain ⟨f0,f1,f2,f3,f4,f5⟩:=hf it (by simp)
   have W:=Walks.range (prog:=X.prog) (w:=X.w) (I.ok.hd hc) it lo 1 n
   refine W.item i s _ _ hg st fun v h' tk hv st' kk=>?_
   obtain ⟨t,rfl⟩:=hv
   have I1:Inv X pins σ H { s with heap:=h',toks:=tk }:=I.turned (fun b o hb e=>kk b o (by simpa using hb) e) f0 f1 f3 f4 f5
   refine ⟨_,rfl,zj (s:={ s with heap:=h',toks:=tk }) (n:="range_iterator") st' rfl rfl (by decide) ⟨.int (lo+i),H,I1,⟨t,?_⟩,⟨rfl,rfl⟩,st',fun b hb=>(hf b hb).1⟩⟩
   rw [Int.mul_one]
 done:=by
   intro X hP hw hK hc i pins s σ H E I hf st hg
   subst hP hw hK
   obtain ⟨f0,f1,f2,f3,f4,f5⟩:=hf it (by simp)
   exact wpAny_pyNext_range_end (I.ok.hd hc) st (by have:n<=i:=hg; omega) fun h' eb=>⟨rfl,I.turned (t':=s.toks) (fun b o hb e=>eb b o hb e) f0 f1 f3 f4 f5⟩
 self:=fun _ _ _ _ _ st h=>wpAny_pyIter_rangeiter st h
end L2
namespace L2
open PySem PySem.Spec PyProof.Rows
section
variable {X:Cx} {tg:Expr}
def aaY (K:PySem.W.Frag) (tl:TE):TI:=fun σ H R=>tl σ H fun x H1=>∃ a,x=.ref a/\(∃ xs,dw K H1 a xs)/\R (Wk K a) H1
def aaZ (K:PySem.W.Frag) (tl:TE):TI:=fun σ H R=>tl σ H fun x H1=>∃ a,x=.ref a/\(∃ xs,bU K H1 a xs)/\R (Td K a) H1
theorem pK {l:Expr} {tl:TE} (hl:PE X l tl):PI X tg l (aaY X.K tl):=by
 intro pins s σ H R I h
 refine d7 (hl pins s σ H _ I h) fun v s1 ⟨x,H1,I1,r1,q1⟩=>?_
 obtain ⟨a,e,⟨xs,hq⟩,q⟩:=q1
 subst e
 cases r1
 obtain ⟨its,rv,p,hz⟩:=I1.list hq
 refine wpAny_pyIter_list p.isList ?_
 refine ⟨s1.heap.objs.size,[s1.heap.objs.size],_,_,H1,rfl,I1.kept (t':=s1.toks) fun b o e=>Heap.get?_push_of_some _ e,KJ a _,⟨_,Heap.get?_push_size _ rfl,rfl,rfl⟩,fun b hb=>?_,q⟩
 have e:b=s1.heap.objs.size:=by simpa using hb
 subst e
 exact I1.Av (Nat.le_refl _) (I1.hok.fresh (Nat.le_refl _))
theorem cY {l:Expr} {tl:TE} (hl:PE X l tl):PI X tg l (aaZ X.K tl):=by
 intro pins s σ H R I h
 refine d7 (hl pins s σ H _ I h) fun v s1 ⟨x,H1,I1,r1,q1⟩=>?_
 obtain ⟨a,e,⟨xs,hq⟩,q⟩:=q1
 subst e
 cases r1
 obtain ⟨its,rv,p,hz⟩:=I1.tuple hq
 refine wpAny_pyIter_tuple (show s1.heap.IsTuple a its.toArray from p) ?_
 refine ⟨s1.heap.objs.size,[s1.heap.objs.size],_,_,H1,rfl,I1.kept (t':=s1.toks) fun b o e=>Heap.get?_push_of_some _ e,Gp a _,⟨_,Heap.get?_push_size _ rfl,rfl,rfl⟩,fun b hb=>?_,q⟩
 have e:b=s1.heap.objs.size:=by simpa using hb
 subst e
 exact I1.Av (Nat.le_refl _) (I1.hok.fresh (Nat.le_refl _))
theorem Ot {pins:List (Addr × Obj)} {σ:St} {H:Hp} {s:Shared} {R:It->Hp->Prop} {E:Value->Shared->Prop} {lo hi:Int} {t u v:Tok} {tk:Nat} (I:Inv X pins σ H s) (h1:-(2 ^ 62)<=lo) (h2:lo<2 ^ 62) (h3:-(2 ^ 62)<=hi) (h4:hi<2 ^ 62)
   (q:R (Xz lo (hi-lo).toNat) H):wpAny (model X.prog X.w) X.A (pyIter (.ref s.heap.objs.size)) (PIE X pins σ tg R) E { s with heap:=s.heap.push { cls:=.type "range",data:=.fields #[.int lo t,.int hi u,.int 1 v] },toks:=tk }:=by
 refine wpAny_pyIter_range (IsRange.new ..) (small_one h1 h2 h3 h4) ?_
 have I1:Inv X pins σ H { s with heap:=s.heap.push { cls:=.type "range",data:=.fields #[.int lo t,.int hi u,.int 1 v] },toks:=tk }:=I.kept fun b o e=>Heap.get?_push_of_some _ e
 refine ⟨(s.heap.push { cls:=.type "range",data:=.fields #[.int lo t,.int hi u,.int 1 v] }).objs.size,[(s.heap.push { cls:=.type "range",data:=.fields #[.int lo t,.int hi u,.int 1 v] }).objs.size],_,_,H,rfl,
   I1.kept (t':=tk) fun b o e=>Heap.get?_push_of_some _ e,Gq _ lo (hi-lo).toNat,?_,fun b hb=>?_,q⟩
 . have e1:lo+((0:Nat):Int) * 1=lo:=by simp
   have e2:(((hi-lo).toNat:Nat):Int)-((0:Nat):Int)=Builtin.Range.rangeSize lo hi 1:=by rw [rangeSize_one]; split <;> omega
   show IsRangeIter _ _ (lo+((0:Nat):Int) * 1) ((((hi-lo).toNat:Nat):Int)-((0:Nat):Int)) 1
   rw [e1,e2]
   exact Heap.get?_push_size _ rfl
 . have e:b=(s.heap.push { cls:=.type "range",data:=.fields #[.int lo t,.int hi u,.int 1 v] }).objs.size:=by simpa using hb
   subst e
   exact I1.Av (Nat.le_refl _) (I1.hok.fresh (Nat.le_refl _))
def aa0 (ta:TA):TI:=fun σ H R=>ta σ H fun vs H1=>∃ j:Int,vs=[.int j]/\-(2 ^ 62)<=j/\j<2 ^ 62/\R (Xz 0 j.toNat) H1
theorem iC {a:Expr} {ta:TA} {p pos:Pos} (hg:Gl X "range") (hm:X.mg "range" = none) (ha:PA X [a] ta) (hs:starEach [a] X.env=[(false,eval a X.env)]:=by rfl):PI X tg (.Call (.Name "range" p) [a] [] pos) (aa0 ta):=by
 intro pins s σ H R I h
 refine Call_ (qC I hg hm boot_range (PyProof.Rows.callWith_type1 (d7 (ha pos pins s σ H _ I h) fun us s1 ⟨vs,H1,I1,r1,q1⟩=>?_) hs rfl))
 obtain ⟨j,e,q1,q2,q⟩:=q1
 subst e
 cases r1 with
 | cons r rr =>
   cases rr
   obtain ⟨t,rfl⟩:=r
   exact call_range_1 (Ot I1 (by omega) (by omega) q1 q2 (by simpa using q))
def aeP (wi:TI) (g:TG) (tb:TS):TS:=fun D σ H=>wi σ H fun J H1=>∃ W:Nat->Nat->St->Hp->Prop,(∃ m,W 0 m σ H1)/\∀ i m σ H,W i m σ H ->
 (J.stop i H/\D.nx σ H)∨(J.go i H/\∃ N:St->Hp->Prop,(∀ σ' H',N σ' H'->∃ m',m'<m/\W (i+1) m' σ' H')/\∀ x H',J.Oq i H x H'->g x σ H' fun σ2 H2=>tb { D with nx:=N,ct:=N,bk:=D.nx } σ2 H2)
def tM (fp:List Addr) (h:Heap):List (Addr × Obj):=fp.filterMap fun b=>(h.get? b).map fun o=>(b,o)
theorem jh {fp:List Addr} {h:Heap} {b:Addr} {o:Obj} (hb:b∈fp) (e:h.get? b=some o):(b,o)∈tM fp h:=List.mem_filterMap.mpr ⟨b,hb,by rw [e]; rfl⟩
theorem KN {fp:List Addr} {h:Heap} {p:Addr × Obj} (hp:p∈tM fp h):p.1∈fp/\h.get? p.1=some p.2:=by
 obtain ⟨b,hb,e⟩:=List.mem_filterMap.mp hp
 cases q:h.get? b with
 | none=>rw [q] at e; cases e
 | some o =>
   rw [q] at e
   have e':(b,o)=p:=Option.some.inj e
   subst e'
   exact ⟨hb,q⟩
theorem Inv.pinned {pins:List (Addr × Obj)} {σ:St} {H:Hp} {s:Shared} {fp:List Addr} (I:Inv X pins σ H s) (hf:∀ b∈fp,kJ X pins H b) (ho:∀ b∈fp,∃ o,s.heap.get? b=some o/\∀ v,o.data≠.cell v):Inv X (pins++tM fp s.heap) σ H s :=
 I.Jk fun p hp=>(List.mem_append.mp hp).elim (fun z=>I.pin p (List.mem_append_right _ z)) fun z=>by
   obtain ⟨hb,e⟩:=KN z
   obtain ⟨f0,f1,f2,_⟩:=hf p.1 hb
   obtain ⟨o,e',d⟩:=ho p.1 hb
   rw [e] at e'; cases e'
   exact ⟨e,f0,f1,f2,d⟩
theorem Inv.oK {pins pl:List (Addr × Obj)} {σ:St} {H:Hp} {s:Shared} (I:Inv X (pins++pl) σ H s):Inv X pins σ H s:=I.Jk fun p hp=>I.pin p (List.mem_append_right _ (List.mem_append_left _ hp))
theorem iu {iter:Expr} {body:List Stmt} {wi:TI} {g:TG} {tb:TS} {pos:Pos} (hp:PassesOwn (model X.prog X.w) X.A X.env X.xe) (hc:X.calm=true) (hi:PI X tg iter wi) (hg:PG X tg g) (hb:Gn X body tb)
   (hs:∀ x,foldedSetIterable iter X.env x=pure x:=by intro _; rfl):PS X (.For tg iter body [] pos) (aeP wi g tb):=by
 intro pins s σ H D I h
 refine wpAny_For (d7 (hi pins s σ H _ I h) fun v s1 h1=>d7 h1 fun itv s2 h2=>?_) hs
 obtain ⟨it,fp,tn,J,H2,e,I2,T,st2,f2,W,⟨m0,w0⟩,turn⟩:=h2
 subst e
 -- what stays true of the iterator's objects through the loop
 have stat:∀ {H':Hp},(∀ b∈fp,H' b=none)->∀ b∈fp,kJ X pins H' b:=fun hn b hb=>⟨hn b hb,(f2 b hb).2⟩
 refine codeAny_forLoop_any (fun n s'=>∃ i σ' H',Inv X pins σ' H' s'/\tn i s'.heap/\(∀ b∈fp,H' b=none)/\W i n σ' H') ?_ m0 ⟨0,σ,H2,I2,st2,fun b hb=>(f2 b hb).1,w0⟩
 rintro n s3 ⟨i,σ3,H3,I3,st3,XC,w3⟩
 rcases turn i n σ3 H3 w3 with ⟨stop,qn⟩ | ⟨go,N,hN,step⟩
 . refine wpAny_passesOwn hp (d7 (T.done X rfl rfl rfl hc i pins s3 σ3 H3 X.xe I3 (stat XC) st3 stop) fun r s4 ⟨hr,I4⟩=>?_)
   subst hr
   exact wpAny_execs_nil ⟨σ3,H3,I4,qn⟩
 . refine wpAny_passesOwn hp (d7 (T.item X rfl rfl rfl hc i pins s3 σ3 H3 X.xe I3 (stat XC) st3 go) fun r s4 ⟨u,hr,h4⟩=>?_)
   subst hr
   refine wpAny_passesOwn hp (d7 h4 fun _ s5 ⟨x,H5,I5,r5,y5,st5,fr5⟩=>?_)
   have I5':=I5.pinned (stat fr5) (T.obj _ _ st5)
   refine wpAny_passesOwn hp (d7 (hg _ s5 σ3 H5 x u _ I5' r5 (step x H5 y5)) fun _ s6 ⟨σ6,H6,I6,q6⟩=>?_)
   refine wpAny_passesOwn hp (d7 (hb _ s6 σ6 H6 _ I6 q6) fun f s7 q7=>?_)
   have again:∀ {σ7:St} {H7:Hp},Inv X (pins++tM fp s5.heap) σ7 H7 s7->N σ7 H7->∃ m,m<n/\∃ i σ' H',Inv X pins σ' H' s7/\tn i s7.heap/\(∀ b∈fp,H' b=none)/\W i m σ' H':=fun {σ7 H7} I7 n7=>by
     obtain ⟨m',hm,w7⟩:=hN σ7 H7 n7
     refine ⟨m',hm,i+1,σ7,H7,I7.oK,T.keep _ _ _ st5 fun b hb o e=>(I7.pin (b,o) (List.mem_append_right _ (List.mem_append_right _ (jh hb e)))).1,fun b hb=>?_,w7⟩
     obtain ⟨o,e,d⟩:=T.obj _ _ st5 b hb
     exact (I7.pin (b,o) (List.mem_append_right _ (List.mem_append_right _ (jh hb e)))).2.1
   cases f with
   | next=>obtain ⟨σ7,H7,I7,n7⟩:=q7; exact again I7 n7
   | cont=>obtain ⟨σ7,H7,I7,n7⟩:=q7; exact again I7 n7
   | brk=>obtain ⟨σ7,H7,I7,q7⟩:=q7; exact ⟨σ7,H7,I7.oK,q7⟩
   | ret v=>obtain ⟨x7,σ7,H7,I7,r7,q7⟩:=q7; exact ⟨x7,σ7,H7,I7.oK,r7,q7⟩
end
theorem Ou {K:PySem.W.Frag} {a:Addr} {xs:List V} {g:TG} {tb:TS} {D:Ends} {σ:St} {H:Hp} (Pv:Nat->St->Hp->Prop) (h0:Pv 0 σ H) (hl:∀ i σ H,i<=xs.length->Pv i σ H->dw K H a xs)
   (hs:∀ i x σ H,xs[i]?=some x->Pv i σ H->g x σ H fun σ2 H2=>tb { D with nx:=Pv (i+1),ct:=Pv (i+1),bk:=D.nx } σ2 H2) (hd:∀ σ H,Pv xs.length σ H->D.nx σ H) :
   ∃ W:Nat->Nat->St->Hp->Prop,(∃ m,W 0 m σ H)/\∀ i m σ H,W i m σ H ->
     ((Wk K a).stop i H/\D.nx σ H)∨((Wk K a).go i H/\∃ N:St->Hp->Prop,(∀ σ' H',N σ' H'->∃ m',m'<m/\W (i+1) m' σ' H')/\∀ x H',(Wk K a).Oq i H x H'->g x σ H' fun σ2 H2=>tb { D with nx:=N,ct:=N,bk:=D.nx } σ2 H2):=by
 refine ⟨fun i m σ H=>m=xs.length-i/\i<=xs.length/\Pv i σ H,⟨xs.length,by simp,Nat.zero_le _,h0⟩,?_⟩
 rintro i m σ H ⟨rfl,hi,p⟩
 have q:=hl i σ H hi p
 by_cases hlt:i<xs.length
 . refine .inr ⟨⟨xs,xs[i],q,by simp [hlt]⟩,Pv (i+1),fun σ' H' p'=>⟨xs.length-(i+1),by omega,rfl,hlt,p'⟩,fun x H' y=>?_⟩
   obtain ⟨e,y⟩:=y
   subst e
   exact hs i x σ _ (y xs q) p
 . have e:i=xs.length:=by omega
   subst e
   exact .inl ⟨⟨xs,q,Nat.le_refl _⟩,hd σ H p⟩
theorem mW {K:PySem.W.Frag} {a:Addr} {xs:List V} {g:TG} {tb:TS} {D:Ends} {σ:St} {H:Hp} (Pv:Nat->St->Hp->Prop) (h0:Pv 0 σ H) (hl:∀ i σ H,i<=xs.length->Pv i σ H->bU K H a xs)
   (hs:∀ i x σ H,xs[i]?=some x->Pv i σ H->g x σ H fun σ2 H2=>tb { D with nx:=Pv (i+1),ct:=Pv (i+1),bk:=D.nx } σ2 H2) (hd:∀ σ H,Pv xs.length σ H->D.nx σ H) :
   ∃ W:Nat->Nat->St->Hp->Prop,(∃ m,W 0 m σ H)/\∀ i m σ H,W i m σ H ->
     ((Td K a).stop i H/\D.nx σ H)∨((Td K a).go i H/\∃ N:St->Hp->Prop,(∀ σ' H',N σ' H'->∃ m',m'<m/\W (i+1) m' σ' H')/\∀ x H',(Td K a).Oq i H x H'->g x σ H' fun σ2 H2=>tb { D with nx:=N,ct:=N,bk:=D.nx } σ2 H2):=by
 refine ⟨fun i m σ H=>m=xs.length-i/\i<=xs.length/\Pv i σ H,⟨xs.length,by simp,Nat.zero_le _,h0⟩,?_⟩
 rintro i m σ H ⟨rfl,hi,p⟩
 have q:=hl i σ H hi p
 by_cases hlt:i<xs.length
 . refine .inr ⟨⟨xs,xs[i],q,by simp [hlt]⟩,Pv (i+1),fun σ' H' p'=>⟨xs.length-(i+1),by omega,rfl,hlt,p'⟩,fun x H' y=>?_⟩
   obtain ⟨e,y⟩:=y
   subst e
   exact hs i x σ _ (y xs q) p
 . have e:i=xs.length:=by omega
   subst e
   exact .inl ⟨⟨xs,q,Nat.le_refl _⟩,hd σ H p⟩
theorem lO {lo:Int} {n:Nat} {g:TG} {tb:TS} {D:Ends} {σ:St} {H:Hp} (Pv:Nat->St->Hp->Prop) (h0:Pv 0 σ H)
   (hs:∀ i σ H,i<n->Pv i σ H->g (.int (lo+i)) σ H fun σ2 H2=>tb { D with nx:=Pv (i+1),ct:=Pv (i+1),bk:=D.nx } σ2 H2) (hd:∀ σ H,Pv n σ H->D.nx σ H) :
   ∃ W:Nat->Nat->St->Hp->Prop,(∃ m,W 0 m σ H)/\∀ i m σ H,W i m σ H ->
     ((Xz lo n).stop i H/\D.nx σ H)∨((Xz lo n).go i H/\∃ N:St->Hp->Prop,(∀ σ' H',N σ' H'->∃ m',m'<m/\W (i+1) m' σ' H')/\∀ x H',(Xz lo n).Oq i H x H'->g x σ H' fun σ2 H2=>tb { D with nx:=N,ct:=N,bk:=D.nx } σ2 H2):=by
 refine ⟨fun i m σ H=>m=n-i/\i<=n/\Pv i σ H,⟨n,by simp,Nat.zero_le _,h0⟩,?_⟩
 rintro i m σ H ⟨rfl,hi,p⟩
 by_cases hlt:i<n
 . refine .inr ⟨hlt,Pv (i+1),fun σ' H' p'=>⟨n-(i+1),by omega,rfl,hlt,p'⟩,fun x H' y=>?_⟩
   obtain ⟨e,y⟩:=y
   subst e y
   exact hs i σ _ hlt p
 . have e:i=n:=by omega
   subst e
   exact .inl ⟨Nat.le_refl _,hd σ H p⟩
end L2
namespace L2
open PySem PySem.Spec PyProof.Rows
abbrev R2:=V->V->Hp->VK->Prop
def iD (X:Cx) (f:Value->Value->Sem Value) (r:R2):Prop :=
 ∀ (pins:List (Addr × Obj)) (s:Shared) (σ:St) (H:Hp) (x y:V) (v u:Value) (Q:VK),Inv X pins σ H s->RelV x v->RelV y u->r x y H Q ->
   wpAny (model X.prog X.w) X.A (f v u) (EP X pins σ Q) X.xe s
def UnR (X:Cx) (f:Value->Sem Value) (r:V->Hp->VK->Prop):Prop :=
 ∀ (pins:List (Addr × Obj)) (s:Shared) (σ:St) (H:Hp) (x:V) (v:Value) (Q:VK),Inv X pins σ H s->RelV x v->r x H Q ->
   wpAny (model X.prog X.w) X.A (f v) (EP X pins σ Q) X.xe s
def gU (X:Cx) (f:Value) (r:List V->Hp->VK->Prop):Prop :=
 ∀ (pins:List (Addr × Obj)) (s:Shared) (σ:St) (H:Hp) (xs:List V) (us:List Value) (Q:VK),Inv X pins σ H s->Vals xs us->r xs H Q ->
   wpAny (model X.prog X.w) X.A (call f us) (EP X pins σ Q) X.xe s
def Jm (r:R2) (ta tb:TE):TE:=fun σ H Q=>ta σ H fun x H1=>tb σ H1 fun y H2=>r x y H2 Q
def tUn (r:V->Hp->VK->Prop) (ta:TE):TE:=fun σ H Q=>ta σ H fun x H1=>r x H1 Q
def rI (C:Int->Int->Prop) (g:Int->Int->V):R2:=fun x y H Q=>∃ i j,x=.int i/\y=.int j/\C i j/\Q (g i j) H
def Ov (g:Int->Int->V):R2:=fun x y H Q=>∃ i j,x=.int i/\y=.int j/\Q (g i j) H
section
variable {X:Cx} {a b c:Expr} {ta tb tc:TE} {pos:Pos}
theorem XD (ha:PE X a ta) (hb:PE X b tb) {pins:List (Addr × Obj)} {s:Shared} {σ:St} {H:Hp} {R:V->V->Hp->Prop} (I:Inv X pins σ H s)
   (h:ta σ H fun x H1=>tb σ H1 fun y H2=>R x y H2) {Q:Value->Shared->Prop} {f:Value->Value->Sem Value}
   (hf:∀ v u s2 x y H2,Inv X pins σ H2 s2->RelV x v->RelV y u->R x y H2->wpAny (model X.prog X.w) X.A (f v u) Q X.xe s2) :
   wpAny (model X.prog X.w) X.A (eval a X.env) (fun v s₁=>wpAny (model X.prog X.w) X.A (eval b X.env) (fun u s₂=>wpAny (model X.prog X.w) X.A (f v u) Q X.xe s₂) X.xe s₁) X.xe s:=by
 refine d7 (ha pins s σ H _ I h) fun v s1 ⟨x,H1,I1,r1,q1⟩=>?_
 refine d7 (hb pins s1 σ H1 _ I1 q1) fun u s2 ⟨y,H2,I2,r2,q2⟩=>?_
 exact hf v u s2 x y H2 I2 r1 r2 q2
theorem bK {op:Operator} {r:R2} (ho:iD X (binaryOp op) r) (ha:PE X a ta) (hb:PE X b tb):PE X (.BinOp a op b pos) (Jm r ta tb):=by
 intro pins s σ H Q I h
 exact wpAny_BinOp (XD ha hb I h fun v u s2 x y H2 I2 rx ry q=>ho pins s2 σ H2 x y v u Q I2 rx ry q)
theorem Ow {op:UnaryOp} {r:V->Hp->VK->Prop} (ho:UnR X (unaryOp op) r) (ha:PE X a ta):PE X (.UnaryOp op a pos) (tUn r ta):=by
 intro pins s σ H Q I h
 exact UnaryOp_ (d7 (ha pins s σ H _ I h) fun v s1 ⟨x,H1,I1,r1,q1⟩=>ho pins s1 σ H1 x v Q I1 r1 q1)
theorem opI {f:Value->Value->Sem Value} {C:Int->Int->Prop} {g:Int->Int->Int}
   (rule:∀ (i j:Int) (t u:Tok) (s:Shared) (Q:Value->Shared->Prop) (E:Value->Shared->Prop),C i j->Q (.int (g i j) s.toks) { s with toks:=s.toks+1 }->wpAny (model X.prog X.w) X.A (f (.int i t) (.int j u)) Q E s) :
   iD X f (rI C fun i j=>.int (g i j)):=by
 intro pins s σ H x y v u Q I rx ry h
 obtain ⟨i,j,rfl,rfl,hc,q⟩:=h
 obtain ⟨t,rfl⟩:=rx
 obtain ⟨t',rfl⟩:=ry
 exact rule i j t t' s _ _ hc ⟨.int (g i j),H,I.tok _,⟨_,rfl⟩,q⟩
theorem aa2 {f:Value->Value->Sem Value} {g:Int->Int->Int}
   (rule:∀ (i j:Int) (t u:Tok) (s:Shared) (Q:Value->Shared->Prop) (E:Value->Shared->Prop),Q (.int (g i j) s.toks) { s with toks:=s.toks+1 }->wpAny (model X.prog X.w) X.A (f (.int i t) (.int j u)) Q E s) :
   iD X f (Ov fun i j=>.int (g i j)):=by
 intro pins s σ H x y v u Q I rx ry h
 obtain ⟨i,j,rfl,rfl,q⟩:=h
 obtain ⟨t,rfl⟩:=rx
 obtain ⟨t',rfl⟩:=ry
 exact rule i j t t' s _ _ ⟨.int (g i j),H,I.tok _,⟨_,rfl⟩,q⟩
theorem KQ {f:Value->Value->Sem Value} {g:Int->Int->Bool}
   (rule:∀ (i j:Int) (t u:Tok) (s:Shared) (Q:Value->Shared->Prop) (E:Value->Shared->Prop),Q (.bool (g i j)) s->wpAny (model X.prog X.w) X.A (f (.int i t) (.int j u)) Q E s) :
   iD X f (Ov fun i j=>.bl (g i j)):=by
 intro pins s σ H x y v u Q I rx ry h
 obtain ⟨i,j,rfl,rfl,q⟩:=h
 obtain ⟨t,rfl⟩:=rx
 obtain ⟨t',rfl⟩:=ry
 exact rule i j t t' s _ _ ⟨.bl (g i j),H,I,rfl,q⟩
def aeS (i j:Int):Prop:=0<j/\j<1073741824
def aa3 (i j:Int):Prop:=0<=j/\j<=1000000/\i.natAbs<2 ^ 64
def Tr (i j:Int):Prop:=(-(2 ^ 64)<i/\i<2 ^ 64)∨(-(2 ^ 64)<j/\j<2 ^ 64)
theorem Tr.ok {i j:Int} (h:Tr i j):IntMulOk i j:=by
 rcases h with ⟨h1,h2⟩ | ⟨h1,h2⟩
 . exact .of_left (intBits_le_64 h1 h2)
 . exact .of_right (intBits_le_64 h1 h2)
theorem XF:iD X (binaryOp .Add) (Ov fun i j=>.int (i+j)):=aa2 fun _ _ _ _ _ _ _ q=>add_int q
theorem XH:iD X (binaryOp .Sub) (Ov fun i j=>.int (i-j)):=aa2 fun _ _ _ _ _ _ _ q=>sub_int q
theorem XJ:iD X (binaryOp .Mult) (rI Tr fun i j=>.int (i * j)):=opI fun _ _ _ _ _ _ _ hc q=>mul_int q hc.ok
theorem XM:iD X (binaryOp .Mod) (rI (fun _ j=>0<j) fun i j=>.int (i % j)):=opI fun i j _ _ _ _ _ hc q=>by
 have h1:(0:Int)<j:=hc
 exact mod_int' (by omega) (by rw [Int.fmod_eq_emod_of_nonneg i (by omega)]; exact q)
theorem XQ:iD X (binaryOp .Pow) (rI aa3 fun i j=>.int (i ^ j.toNat)):=opI fun _ _ _ _ _ _ _ hc q=>pow_int_small hc.1 hc.2.1 hc.2.2 q
end
def aa4:V->V->Bool
 | .non,.non=>true | .non,.int _=>true | .int _,.non=>true | .non,.bl _=>true | .bl _,.non=>true | .non,.str _=>true | .str _,.non=>true
 | .int _,.int _=>true | .bl _,.bl _=>true | .str _,.str _=>true | .N8 _,.N8 _=>true
 | .int _,.str _=>true | .str _,.int _=>true | .bl _,.str _=>true | .str _,.bl _=>true
 | _,_=>false
def rEq:R2:=fun x y H Q=>aa4 x y=true/\Q (.bl (decide (x=y))) H
def rNe:R2:=fun x y H Q=>aa4 x y=true/\Q (.bl (!decide (x=y))) H
theorem Jo {i j:Int}:decide (V.int i=V.int j)=(i == j):=by
 rw [Bool.eq_iff_iff]
 simp
theorem Ox {i j:Bool}:decide (V.bl i=V.bl j)=(i == j):=by
 rw [Bool.eq_iff_iff]
 simp
theorem Jp {i j:Str}:decide (V.str i=V.str j)=(i == j):=by
 rw [Bool.eq_iff_iff]
 simp
theorem Jq {i j:Array UInt8}:decide (V.N8 i=V.N8 j)=(i.toList == j.toList):=by
 rw [Bool.eq_iff_iff]
 cases i
 cases j
 simp
section
variable {X:Cx} {a b c:Expr} {ta tb tc:TE} {pos:Pos}
theorem cH {pins:List (Addr × Obj)} {σ:St} {H:Hp} {s:Shared} {Q:VK} {k k':Bool} (I:Inv X pins σ H s) (q:Q (.bl k) H) (e:k=k'):EP X pins σ Q (.bool k') s:=by
 subst e
 exact ⟨.bl k,H,I,rfl,q⟩
theorem v7:iD X (compareOp .Eq) rEq:=by
 intro pins s σ H x y v u Q I rx ry h
 obtain ⟨hs,q⟩:=h
 cases x with
 | non =>
   cases rx
   cases y with
   | non=>cases ry; exact PySem.EqNone.eq_none_none (cH I q (by simp))
   | bl j=>cases ry; exact PySem.EqNone.eq_none_bool (cH I q (by simp))
   | int j=>obtain ⟨t',rfl⟩:=ry; exact PySem.EqNone.eq_none_int (cH I q (by simp))
   | str j=>obtain ⟨t',rfl⟩:=ry; exact PySem.EqNone.eq_none_str (cH I q (by simp))
   | _=>exact absurd (show false=true from hs) Bool.false_ne_true
 | bl i =>
   cases rx
   cases y with
   | non=>cases ry; exact PySem.EqNone.eq_bool_none (cH I q (by simp))
   | bl j=>cases ry; exact eq_bool (cH I q Ox)
   | str j=>obtain ⟨t',rfl⟩:=ry; exact PySem.EqMixed.eq_bool_str (cH I q (by simp))
   | _=>exact absurd (show false=true from hs) Bool.false_ne_true
 | int i =>
   obtain ⟨t,rfl⟩:=rx
   cases y with
   | non=>cases ry; exact PySem.EqNone.eq_int_none (cH I q (by simp))
   | int j=>obtain ⟨t',rfl⟩:=ry; exact eq_int (cH I q Jo)
   | str j=>obtain ⟨t',rfl⟩:=ry; exact PySem.EqMixed.eq_int_str (cH I q (by simp))
   | _=>exact absurd (show false=true from hs) Bool.false_ne_true
 | str i =>
   obtain ⟨t,rfl⟩:=rx
   cases y with
   | non=>cases ry; exact PySem.EqNone.eq_str_none (cH I q (by simp))
   | bl j=>cases ry; exact PySem.EqMixed.eq_str_bool (cH I q (by simp))
   | int j=>obtain ⟨t',rfl⟩:=ry; exact PySem.EqMixed.eq_str_int (cH I q (by simp))
   | str j=>obtain ⟨t',rfl⟩:=ry; exact eq_str (cH I q Jp)
   | _=>exact absurd (show false=true from hs) Bool.false_ne_true
 | N8 i =>
   obtain ⟨t,rfl⟩:=rx
   cases y with
   | N8 j=>obtain ⟨t',rfl⟩:=ry; exact PySem.W.eq_bytes (cH I q Jq)
   | _=>exact absurd (show false=true from hs) Bool.false_ne_true
 | _=>cases y <;> exact absurd (show false=true from hs) Bool.false_ne_true
theorem Dh:iD X (compareOp .NotEq) rNe:=by
 intro pins s σ H x y v u Q I rx ry h
 obtain ⟨hs,q⟩:=h
 cases x with
 | non =>
   cases rx
   cases y with
   | non=>cases ry; exact PySem.EqNone.ne_none_none (cH I q (by simp))
   | bl j=>cases ry; exact PySem.EqNone.ne_none_bool (cH I q (by simp))
   | int j=>obtain ⟨t',rfl⟩:=ry; exact PySem.EqNone.ne_none_int (cH I q (by simp))
   | str j=>obtain ⟨t',rfl⟩:=ry; exact PySem.EqNone.ne_none_str (cH I q (by simp))
   | _=>exact absurd (show false=true from hs) Bool.false_ne_true
 | bl i =>
   cases rx
   cases y with
   | non=>cases ry; exact PySem.EqNone.ne_bool_none (cH I q (by simp))
   | bl j=>cases ry; exact ne_bool (cH I q (congrArg not Ox))
   | str j=>obtain ⟨t',rfl⟩:=ry; exact PySem.EqMixed.ne_bool_str (cH I q (by simp))
   | _=>exact absurd (show false=true from hs) Bool.false_ne_true
 | int i =>
   obtain ⟨t,rfl⟩:=rx
   cases y with
   | non=>cases ry; exact PySem.EqNone.ne_int_none (cH I q (by simp))
   | int j=>obtain ⟨t',rfl⟩:=ry; exact ne_int (cH I q (congrArg not Jo))
   | str j=>obtain ⟨t',rfl⟩:=ry; exact PySem.EqMixed.ne_int_str (cH I q (by simp))
   | _=>exact absurd (show false=true from hs) Bool.false_ne_true
 | str i =>
   obtain ⟨t,rfl⟩:=rx
   cases y with
   | non=>cases ry; exact PySem.EqNone.ne_str_none (cH I q (by simp))
   | bl j=>cases ry; exact PySem.EqMixed.ne_str_bool (cH I q (by simp))
   | int j=>obtain ⟨t',rfl⟩:=ry; exact PySem.EqMixed.ne_str_int (cH I q (by simp))
   | str j=>obtain ⟨t',rfl⟩:=ry; exact ne_str (cH I q (congrArg not Jp))
   | _=>exact absurd (show false=true from hs) Bool.false_ne_true
 | N8 i =>
   obtain ⟨t,rfl⟩:=rx
   cases y with
   | N8 j=>obtain ⟨t',rfl⟩:=ry; exact PySem.W.ne_bytes (cH I q (congrArg not Jq))
   | _=>exact absurd (show false=true from hs) Bool.false_ne_true
 | _=>cases y <;> exact absurd (show false=true from hs) Bool.false_ne_true
theorem Wm:iD X (compareOp .Lt) (Ov fun i j=>.bl (decide (i<j))):=KQ fun _ _ _ _ _ _ _ q=>lt_int q
theorem aa5:iD X (compareOp .LtE) (Ov fun i j=>.bl (decide (i<=j))):=KQ fun _ _ _ _ _ _ _ q=>le_int q
theorem aa6:iD X (compareOp .Gt) (Ov fun i j=>.bl (decide (j<i))):=KQ fun _ _ _ _ _ _ _ q=>gt_int q
theorem aa7:iD X (compareOp .GtE) (Ov fun i j=>.bl (decide (j<=i))):=KQ fun _ _ _ _ _ _ _ q=>ge_int q
theorem XR:iD X (compareOp .Is) (fun x y H Q=>y=.non/\Q (.bl (decide (x=.non))) H):=by
 intro pins s σ H x y v u Q I rx ry h
 obtain ⟨rfl,q⟩:=h
 cases ry
 refine is_none_gen (cH I q ?_)
 cases x <;> first
   | (cases rx; rfl)
   | (obtain ⟨t,rfl⟩:=rx; rfl)
theorem bw (b:Expr) {op:CmpOp} (h:op≠.In:=by decide) (h2:op≠.NotIn:=by decide):behindInMarks op b=false:=by
 have e1:(op == CmpOp.In)=false:=by cases op <;> first | rfl | exact absurd rfl h
 have e2:(op == CmpOp.NotIn)=false:=by cases op <;> first | rfl | exact absurd rfl h2
 cases b <;> simp [behindInMarks,e1,e2]
theorem gY {op:CmpOp} {r:R2} (ho:iD X (compareOp op) r) (ha:PE X a ta) (hb:PE X b tb) (hm:behindInMarks op b=false):PE X (.Compare a [op] [b] pos) (Jm r ta tb):=by
 intro pins s σ H Q I h
 exact wpAny_Compare1 (XD ha hb I h fun v u s2 x y H2 I2 rx ry q=>ho pins s2 σ H2 x y v u Q I2 rx ry q) hm
theorem tO:(sizeLine:Nat)<2 ^ 63:=by rw [sizeLine_eq]; decide
theorem Gs:iD X (binaryOp .Add) (fun x y H Q=>∃ i j,x=.str i/\y=.str j/\i.length+j.length<=sizeLine/\Q (.str (i++j)) H):=by
 intro pins s σ H x y v u Q I rx ry h
 obtain ⟨i,j,rfl,rfl,hz,q⟩:=h
 obtain ⟨t,rfl⟩:=rx
 obtain ⟨t',rfl⟩:=ry
 exact add_str (fun t' tk=>⟨.str (i++j),H,I.tok _,⟨_,rfl⟩,q⟩) hz
theorem vals1 {x:V} {us:List Value} (r:Vals [x] us):∃ u,us=[u]/\RelV x u:=by
 cases r with
 | cons r1 r2=>cases r2; exact ⟨_,rfl,r1⟩
theorem vals2 {x y:V} {us:List Value} (r:Vals [x,y] us):∃ u w',us=[u,w']/\RelV x u/\RelV y w':=by
 cases r with
 | cons r1 r2 =>
   cases r2 with
   | cons r3 r4=>cases r4; exact ⟨_,_,rfl,r1,r3⟩
theorem Oz:gU X (.builtin "abs") (fun xs H Q=>∃ i,xs=[.int i]/\Q (.int (if i<0 then -i else i)) H):=by
 intro pins s σ H xs us Q I r h
 obtain ⟨i,rfl,q⟩:=h
 obtain ⟨u,rfl,t,rfl⟩:=vals1 r
 exact call_abs_int fun u tk=>⟨.int (if i<0 then -i else i),H,I.tok _,⟨_,rfl⟩,q⟩
theorem jQ (hc:X.calm=true):gU X (.builtin "max") (fun xs H Q=>∃ i j,xs=[.int i,.int j]/\Q (.int (if j > i then j else i)) H):=by
 intro pins s σ H xs us Q I r h
 obtain ⟨i,j,rfl,q⟩:=h
 obtain ⟨u,w',rfl,⟨t,rfl⟩,⟨t',rfl⟩⟩:=vals2 r
 refine max_two_ints (I.ok.hd hc) fun h' tk k=>⟨_,H,I.kept k,?_,q⟩
 by_cases hj:j > i
 . rw [if_pos hj,if_pos hj]; exact ⟨_,rfl⟩
 . rw [if_neg hj,if_neg hj]; exact ⟨_,rfl⟩
theorem zm (hc:X.calm=true):gU X (.builtin "min") (fun xs H Q=>∃ i j,xs=[.int i,.int j]/\Q (.int (if j<i then j else i)) H):=by
 intro pins s σ H xs us Q I r h
 obtain ⟨i,j,rfl,q⟩:=h
 obtain ⟨u,w',rfl,⟨t,rfl⟩,⟨t',rfl⟩⟩:=vals2 r
 refine min_two_ints (I.ok.hd hc) fun h' tk k=>⟨_,H,I.kept k,?_,q⟩
 by_cases hj:j<i
 . rw [if_pos hj,if_pos hj]; exact ⟨_,rfl⟩
 . rw [if_neg hj,if_neg hj]; exact ⟨_,rfl⟩
theorem Aw:gU X (.type "str") (fun xs H Q=>∃ i,xs=[.int i]/\i.natAbs.log2<1920/\Q (.str (toString i)) H):=by
 intro pins s σ H xs us Q I r h
 obtain ⟨i,rfl,hz,q⟩:=h
 obtain ⟨u,rfl,t,rfl⟩:=vals1 r
 exact PySem.P.str_of_int hz ⟨.str _,H,I.tok _,⟨_,rfl⟩,q⟩
theorem Di:gU X (.builtin "divmod") (fun xs H Q=>∃ i j,xs=[.int i,.int j]/\aeS i j/\∀ p,H p=none->Q (.ref p) (upd H p (.tup [.int (i / j),.int (i % j)]))):=by
 intro pins s σ H xs us Q I r h
 obtain ⟨i,j,rfl,⟨h1,h2⟩,q⟩:=h
 obtain ⟨u,w',rfl,⟨t,rfl⟩,⟨t',rfl⟩⟩:=vals2 r
 refine divmod_int (by omega) ?_ (.inl (PyProof.noPylong_small (by omega)))
 rw [Int.fdiv_eq_ediv_of_nonneg i (by omega),Int.fmod_eq_emod_of_nonneg i (by omega)]
 have hn:H s.heap.objs.size=none:=I.hok.fresh (Nat.le_refl _)
 refine ⟨.ref s.heap.objs.size,_,?_,rfl,q _ hn⟩
 refine I.laid (fun b o e=>Heap.get?_push_of_some _ e) (Nat.le_refl _) ⟨by simp only [List.length_cons,List.length_nil]; rw [sizeLine_eq]; decide,[.int (i / j) s.toks,.int (i % j) (s.toks+1)],.cons ⟨_,rfl⟩ (.cons ⟨_,rfl⟩ .nil),?_⟩
 exact ⟨_,Heap.get?_push_size s.heap rfl,rfl,⟨0,rfl⟩,rfl⟩
end
end L2
namespace L2
open PySem PySem.Spec PyProof.Rows
structure XS (h:Heap) (x dx C:Addr) (mA:Str->Option Value):Prop where
 obj:h.get? x=some (PySem.W.instObj C dx)
 ns:h.Ns1 dx mA
 ne:dx≠x
theorem KR {h:Heap} {dx:Addr} {mA:Str->Option Value} (n:h.Ns1 dx mA):∃ od,h.get? dx=some od/\∀ name,PySem.W.lookIn name od=some (mA name):=by
 obtain ⟨o,es,ep,ho,hd,hk,_,hm⟩:=n
 refine ⟨o,ho,fun name=>?_⟩
 have e:=hm name
 unfold nsFind findBy at e
 rw [<- Array.find?_toList] at e
 unfold PySem.W.lookIn
 rw [hd]
 dsimp only
 split
 . rename_i y q
   rw [q] at e
   exact congrArg some e
 . rename_i q
   rw [q] at e
   have a:es.toList.any (·.refKey)=false:=by
     rw [List.any_eq_false]
     intro y hy
     obtain ⟨z,t,hkey⟩:=hk y (Array.mem_toList_iff.mp hy)
     simp [DictEntry.refKey,hkey]
   have a':¬ es.toList.any (·.refKey)=true:=by rw [a]; exact Bool.false_ne_true
   rw [if_neg a']
   exact congrArg some e
theorem XS.look {h:Heap} {x dx C:Addr} {mA:Str->Option Value} (I:XS h x dx C mA):∃ od,PySem.W.InstAt h x (PySem.W.instObj C dx) C (some od)/\∀ name,PySem.W.lookIn name od=some (mA name) :=
 let ⟨od,ho,hl⟩:=KR I.ns
 ⟨od,⟨I.obj,rfl,rfl,ho⟩,hl⟩
section
variable {prog:Program} {w:World} {A:Around} {E:Value->Shared->Prop} {s:Shared} {K:PySem.W.Frag} {x dx C f:Addr} {mA:Str->Option Value} {name:Str} {v:Value}
end
theorem vX.some_of {v:V} {o:Option Value} (r:vX (some v) o):∃ u,o=some u/\RelV v u:=by
 cases o with
 | none=>exact (show False from r).elim
 | some u=>exact ⟨u,rfl,r⟩
section
variable {P:Program} {w:World} {H H':Hp} {h h':Heap} {a C dx:Addr} {fs fs':List (Str × V)}
theorem Tt (hok:rJ P w H h) (e:H a=some (.ins C dx fs)):∃ mA,XS h a dx C mA/\(∀ f,vX (fs.lookup f) (mA f))/\PySem.Within mA (fs.map (·.1))/\fs.length<=1000/\H dx=some (.own a):=by
 obtain ⟨d,z,ne,ob,mA,n,r,q⟩:=(show dZ P w H h a (.ins C dx fs) from hok a _ e)
 exact ⟨mA,⟨ob,n,ne⟩,r,q,z,d⟩
end
structure Cls (K:PySem.W.Frag) (C:Addr):Prop where
 pg:PySem.W.plainGet K C Str.empty=true
 hd:PySem.W.hasDictIn K C=true
 po:PySem.W.plainOver K C=true
 sa:PySem.W.findIn K (.ref C) "__setattr__" = some (some (.builtin "object.__setattr__"))
theorem Cls.get {K:PySem.W.Frag} {C:Addr} (c:Cls K C) (f:Str):PySem.W.plainGet K C f=true:=c.pg
section
variable {X:Cx} {pins:List (Addr × Obj)} {σ:St} {H:Hp} {s:Shared} {a C dx:Addr} {fs:List (Str × V)} {f:Str} {v:V} {A:Around} {E:Value->Shared->Prop}
end
section
variable {X:Cx} {o e value:Expr} {f:Str} {pos pos' tpos:Pos} {ta tv:TE}
end
section
variable {X:Cx} {pins:List (Addr × Obj)} {σ:St} {H:Hp} {s:Shared} {A:Around} {E:Value->Shared->Prop} {Q:Value->Shared->Prop} {c:Value} {b:Bool}
inductive jJ (K:PySem.W.Frag) (H:Hp):V->Value->Prop where
 | non:jJ K H .non (.type "NoneType")
 | bl (x:Bool):jJ K H (.bl x) (.type "bool")
 | int (i:Int):jJ K H (.int i) (.type "int")
 | str (x:Str):jJ K H (.str x) (.type "str")
 | flt (x:UInt64):jJ K H (.flt x) (.type "float")
 | lst {a:Addr} {xs:List V} (e:H a=some (.lst xs)):jJ K H (.ref a) (.type "list")
 | Ji {a:Addr} {o:Obj} {xs:List V} (e:H a=some (.Ji o (.lst xs))):jJ K H (.ref a) (.type "list")
 | tup {a:Addr} {xs:List V} (e:H a=some (.tup xs)):jJ K H (.ref a) (.type "tuple")
 | dK {a:Addr} {kvs:List (Key × V)} (e:H a=some (.dK kvs)):jJ K H (.ref a) (.type "dict")
 | dT {a:Addr} {kvs:List (List Key × V)} (e:H a=some (.dT kvs)):jJ K H (.ref a) (.type "dict")
 | ins {a C dx:Addr} {fs:List (Str × V)} (e:H a=some (.ins C dx fs)) (cl:Cls K C) (ha:PySem.W.findIn K (.ref C) "__class__" = some (some (.builtin "object.__class__")))
     (hn:PySem.W.specialIn K (.builtin "object.__class__") "__get__" = some (some (.builtin "getset_descriptor.__get__"))) (htk:PySem.W.takesIn K (.builtin "object.__class__")=some true)
     (hm:PySem.W.mroIn K C (.type "object")=some true):jJ K H (.ref a) (.ref C)
theorem KY {x:V} {u t:Value} (I:Inv X pins σ H s) (rx:RelV x u) (ty:jJ X.K H x t) (e:PySem.W.kitOne X.K t c=some b) (h:∀ tk,Q (.bool b) { s with toks:=tk }) :
   wpAny (model X.prog X.w) A (call (.builtin "isinstance") [u,c]) Q E s:=by
 cases ty with
 | non=>cases (show u=Value.none from rx); exact PySem.W.kia_one PySem.W.kitx_none I.Dc True.intro e (fun z=>nomatch z) h
 | bl y=>cases (show u=Value.bool y from rx); exact PySem.W.kia_one PySem.W.kitx_bool I.Dc True.intro e (fun z=>nomatch z) h
 | int i=>obtain ⟨t,q⟩:=(show ∃ t,u=Value.int i t from rx); cases q; exact PySem.W.kia_one PySem.W.kitx_int I.Dc True.intro e (fun z=>nomatch z) h
 | str y=>obtain ⟨t,q⟩:=(show ∃ t,u=Value.str y t from rx); cases q; exact PySem.W.kia_one PySem.W.kitx_str I.Dc True.intro e (fun z=>nomatch z) h
 | flt y=>obtain ⟨t,q⟩:=(show ∃ t,u=Value.float y t from rx); cases q; exact PySem.W.kia_one PySem.W.kitx_float I.Dc True.intro e (fun z=>nomatch z) h
 | @lst a xs ea =>
   cases (show u=Value.ref a from rx)
   obtain ⟨_,_,n,_,h1⟩:=(show dZ X.prog X.w H s.heap a (.lst xs) from I.hok a _ ea)
   exact PySem.W.kia_one PySem.W.kitx_list I.Dc ⟨_,h1,rfl⟩ e (fun z=>nomatch z) h
 | @Ji a ob xs ea =>
   cases (show u=Value.ref a from rx)
   obtain ⟨_,_,_,n,_,h1⟩:=(show dZ X.prog X.w H s.heap a (.Ji ob (.lst xs)) from I.hok a _ ea)
   exact PySem.W.kia_one PySem.W.kitx_list I.Dc ⟨_,h1,rfl⟩ e (fun z=>nomatch z) h
 | @tup a xs ea =>
   cases (show u=Value.ref a from rx)
   obtain ⟨_,_,_,p⟩:=(show dZ X.prog X.w H s.heap a (.tup xs) from I.hok a _ ea)
   obtain ⟨o,h1,h2,_⟩:=p
   exact PySem.W.kia_one PySem.W.kitx_tuple I.Dc ⟨o,h1,h2⟩ e (fun z=>nomatch z) h
 | @dK a kvs ea =>
   cases (show u=Value.ref a from rx)
   obtain ⟨_,_,vs,_,p⟩:=(show dZ X.prog X.w H s.heap a (.dK kvs) from I.hok a _ ea)
   obtain ⟨o,es,ep,h1,h2,_⟩:=p
   exact PySem.W.kia_one PySem.W.kitx_dict I.Dc ⟨o,h1,h2.1⟩ e (fun z=>nomatch z) h
 | @dT a kvs ea =>
   cases (show u=Value.ref a from rx)
   obtain ⟨_,_,xs,_,o,es,ep,h1,h2,_⟩:=(show dZ X.prog X.w H s.heap a (.dT kvs) from I.hok a _ ea)
   exact PySem.W.kia_one PySem.W.kitx_dict I.Dc ⟨o,h1,h2.1⟩ e (fun z=>nomatch z) h
 | @ins a C dx fs ea cl ha hn htk hm =>
   cases (show u=Value.ref a from rx)
   obtain ⟨mA,O,_⟩:=Tt I.hok ea
   obtain ⟨od,J,_⟩:=O.look
   exact PySem.W.kia_one (PySem.W.kitx_own (cl.get _) cl.hd ha hn htk hm) I.Dc J e (fun z=>nomatch z) h
end
end L2
namespace L2
open PySem PySem.Spec PyProof.Rows
structure lG (k:Nat) (A:Around):Prop where
 hd:A.handled=none
 dp:A.depth+3 * k+5<recursionLimit
 un:A.units+16 * k+200<cLine
theorem lG.mono {j k:Nat} {A:Around} (r:lG k A) (h:j<=k):lG j A:=⟨r.hd,by have:=r.dp; omega,by have:=r.un; omega⟩
theorem lG.deeper {k:Nat} {A:Around} (r:lG (k+1) A) (env:Env):lG k (A.deeper env) :=
 ⟨r.hd,by have:=r.dp; show A.depth+1+3 * k+5<_; omega,by have:=r.un; show A.units+3+16 * k+200<_; omega⟩
theorem lG.depth {k:Nat} {A:Around} (r:lG k A):A.depth<recursionLimit:=by have:=r.dp; omega
theorem lG.units {k:Nat} {A:Around} (r:lG k A):A.units+64<cLine:=by have:=r.un; omega
theorem lG.Gu {k:Nat} {A:Around} (r:lG k A):A.units<cLine:=by have:=r.un; omega
def Gv:TA:=fun _ H Q=>Q [] H
def oM (ta:TE) (tr:TA):TA:=fun σ H Q=>ta σ H fun x H1=>tr σ H1 fun xs H2=>Q (x :: xs) H2
section
variable {X:Cx} {e:Expr} {es:List Expr} {te:TE} {t:TA} {pos:Pos}
theorem ak:PA X [] Gv:=fun _ _ _ _ H Q I h=>Calls.spliced_nil ⟨[],H,I,.nil,h⟩
theorem aj (ha:PE X e te) (hr:PA X es t) (hs:starEach (e :: es) X.env=(false,eval e X.env) :: starEach es X.env:=by rfl):PA X (e :: es) (oM te t):=by
 intro pos pins s σ H Q I h
 rw [hs]
 show wpAny _ _ (spliced ((false,eval e X.env) :: backTo pos (starEach es X.env))) _ _ s
 refine Calls.spliced_cons (d7 (ha pins s σ H _ I h) fun u s1 ⟨x,H1,I1,r1,q1⟩=>?_)
 exact d7 (hr pos pins s1 σ H1 _ I1 q1) fun us s2 ⟨xs,H2,I2,r2,q2⟩=>⟨x :: xs,H2,I2,.cons r1 r2,q2⟩
def Ax (t:TA):TE:=fun σ H Q=>t σ H fun xs H1=>xs.length<=sizeLine/\∀ p,H1 p=none->Q (.ref p) (upd H1 p (.tup xs))
def X3 (t:TA):TE:=fun σ H Q=>t σ H fun xs H1=>xs.length<=sizeLine/\∀ p,H1 p=none->Q (.ref p) (upd H1 p (.lst xs))
theorem dD {x1} (h:PA X es t):PE X (.Tuple es x1 pos) (Ax t):=by
 intro pins s σ H Q I hq
 refine wpAny_Tuple_spliced (d7 (h pos pins s σ H _ I hq) fun us s1 ⟨xs,H1,I1,r,z,q⟩=>⟨by rw [<- r.length]; exact z,?_⟩)
 have hf:H1 s1.heap.objs.size=none:=I1.hok.fresh (Nat.le_refl _)
 refine ⟨.ref s1.heap.objs.size,upd H1 s1.heap.objs.size (.tup xs),I1.laid (t':=s1.toks) (fun b u e=>Heap.get?_push_of_some _ e) (Nat.le_refl _) ?_,rfl,q _ hf⟩
 exact ⟨z,us,r,⟨_,Heap.get?_push_size _ rfl,rfl,⟨_,rfl⟩,rfl⟩⟩
theorem gq (h:PA X es t):PE X (.List es pos) (X3 t):=by
 intro pins s σ H Q I hq
 refine wpAny_List_spliced (d7 (h pos pins s σ H _ I hq) fun us s1 ⟨xs,H1,I1,r,z,q⟩=>⟨by rw [<- r.length]; exact z,?_⟩)
 have hf:H1 s1.heap.objs.size=none:=I1.hok.fresh (Nat.le_refl _)
 refine ⟨.ref s1.heap.objs.size,upd H1 s1.heap.objs.size (.lst xs),I1.laid (t':=s1.toks) (fun b u e=>Heap.get?_push_of_some _ e) (Nat.le_refl _) ?_,rfl,q _ hf⟩
 exact ⟨z,us,0,r,Heap.get?_push_size _ rfl⟩
end
abbrev Sp:=List V->Hp->VK->XK->Prop
abbrev KZ:=List Env->Hp->Shared->XK->Value->Shared->Prop
structure Tv (P:Program) (w:World) (K:PySem.W.Frag) (mg:Str->Option Value) (base:Heap) (A:Around) (outer:List Env) (s:Shared) (H:Hp):Prop where
 frames:A.frames=some outer
 mod:Mod K mg base
 bs:∀ b o,base.get? b=some o->s.heap.get? b=some o/\H b=none
 Wf:base.objs.size<=s.heap.objs.size
 vY:s.heap.FunFrames base outer
 frf:∀ b∈frs outer,H b=none
 hok:rJ P w H s.heap
 bare:AllBare s.gens
def CE (outer:List Env) (P:Program) (w:World) (H:Hp) (s:Shared) (Q:VK) (u:Value) (s':Shared):Prop :=
 ∃ v H',s'.os=s.os/\AllBare s'.gens/\Un (frs outer) [] H H' s.heap s'.heap/\rJ P w H' s'.heap/\RelV v u/\Q v H'
def CR (CX:KZ) (outer:List Env) (P:Program) (w:World) (H:Hp) (s:Shared) (Q:VK) (E:XK) (r:Result) (s':Shared):Prop :=
 match r with
 | .ok (.ret u)=>CE outer P w H s Q u s'
 | .ok _=>False
 | .error e=>CX outer H s E e s'
structure aQ (P:Program) (w:World) (K:PySem.W.Frag) (mg:Str->Option Value) (base:Heap) (CX:KZ) (k:Nat) (f:Addr) (fd:FuncData) (ps:List Str) (sp:Sp):Prop where
 len:∀ vs H Q E,sp vs H Q E->vs.length=ps.length
 run:∀ (A:Around) (outer:List Env) (s:Shared) (H:Hp) (args:Args) (us:List Value) (vs:List V) (Q:VK) (E:XK),lG k A->Tv P w K mg base A outer s H->BindsTo s fd args (ps.zip us)->Vals vs us->sp vs H Q E ->
   codeAny (model P w) A (.call (.ref f) args) (CR CX outer P w H s Q E) s
theorem aQ.mono {P:Program} {w:World} {K:PySem.W.Frag} {mg:Str->Option Value} {base:Heap} {CX:KZ} {j k:Nat} {f:Addr} {fd:FuncData} {ps:List Str} {sp:Sp} (F:aQ P w K mg base CX j f fd ps sp) (h:j<=k) :
   aQ P w K mg base CX k f fd ps sp:=⟨F.len,fun A outer s H args us vs Q E hr=>F.run A outer s H args us vs Q E (hr.mono h)⟩
section
variable {X:Cx} {pins:List (Addr × Obj)} {σ:St} {H:Hp} {s s':Shared}
theorem Inv.env0 (I:Inv X pins σ H s):Tv X.prog X.w X.K X.mg X.base X.A X.stack s H :=
 ⟨I.ok.frames,I.ok.mod,I.bs,Nat.le_trans I.ok.Wf I.sz,I.stack,I.Jj,I.hok,I.bare⟩
theorem Inv.after {Q:VK} {u:Value} (I:Inv X pins σ H s) (h:CE X.stack X.prog X.w H s Q u s'):EP X pins σ Q u s':=by
 obtain ⟨v,H',os,bare,un,hok,r,q⟩:=h
 obtain ⟨hh,g,d,t,os'⟩:=s'
 obtain rfl:os'=s.os:=os
 exact ⟨v,H',I.call (h':=hh) (g':=g) (d':=d) (t':=t) (ch:=[]) un hok bare (fun b z=>absurd z (by simp)),r,q⟩
end
def Wn (sp:Sp) (OD:List V) (E:XK) (t:TA):TE:=fun σ H Q=>t σ H fun vs H1=>sp (vs++OD) H1 Q E
def Binds (K:PySem.W.Frag) (fd:FuncData) (ps:List Str) (ds:List Value):Prop :=
 ∀ (s:Shared) (us:List Value),K.In s.heap->(us++ds).length=ps.length->BindsTo s fd ⟨us,[]⟩ (ps.zip (us++ds))
theorem Binds.all {K:PySem.W.Frag} {fd:FuncData} {ps:List Str} (h:∀ us:List Value,us.length=ps.length->bindArgs fd ⟨us,[]⟩=pure (ps.zip us)):Binds K fd ps []:=fun s us _ hl=>by
 rw [List.append_nil] at hl ⊢
 exact .of_eq (h us hl)
def Passes (CX:KZ) (X:Cx) (E:XK):Prop:=∀ (pins:List (Addr × Obj)) (σ:St) (H:Hp) (s:Shared) (e:Value) (s':Shared),Inv X pins σ H s->CX X.stack H s E e s'->X.xe e s'
section
variable {X:Cx} {CX:KZ} {k:Nat} {f C:Addr} {fd:FuncData} {ps:List Str} {sp:Sp} {OD:List V} {ds:List Value} {E:XK} {x m:Str} {p pos apos:Pos} {e o:Expr} {es:List Expr} {ta:TE} {t:TA}
theorem X4 {pins:List (Addr × Obj)} {σ:St} {H:Hp} {s:Shared} {Q:VK} {us:List Value} {vs:List V} (F:aQ X.prog X.w X.K X.mg X.base CX k f fd ps sp) (hr:lG k X.A) (hb:Binds X.K fd ps ds) (hd:Vals OD ds) (hx:Passes CX X E)
   (I:Inv X pins σ H s) (r:Vals vs us) (h:sp (vs++OD) H Q E):wpAny (model X.prog X.w) X.A (call (.ref f) us) (EP X pins σ Q) X.xe s:=by
 have r2:Vals (vs++OD) (us++ds):=r.append hd
 have hl:(us++ds).length=ps.length:=by rw [<- r2.length]; exact F.len _ _ _ _ h
 refine wpAny_call (codeAny_mono (F.run X.A X.stack s H ⟨us,[]⟩ (us++ds) (vs++OD) Q E hr I.env0 (hb s us I.Dc hl) r2 h) fun r s' hq=>?_)
 cases r with
 | error e=>exact hx pins σ H s e s' I hq
 | ok fl =>
   cases fl with
   | ret u=>exact I.after hq
   | next=>exact False.elim hq
   | brk=>exact False.elim hq
   | cont=>exact False.elim hq
theorem aD (F:aQ X.prog X.w X.K X.mg X.base CX k f fd ps sp) (hr:lG k X.A) (hg:Gl X x) (hm:X.mg x=some (.ref f)) (hk:PySem.W.keepIn X.K (.ref f)=true) (hb:Binds X.K fd ps ds) (hd:Vals OD ds) (hx:Passes CX X E)
   (ha:PA X (e :: es) t) (hdb:(x == ("__debug__" : Str))=false:=by decide) (he:starEach (e :: es) X.env=(false,eval e X.env) :: starEach es X.env:=by rfl) (hpl:(backTo pos (starEach es X.env)).any (·.1)=false:=by rfl) :
   PE X (.Call (.Name x p) (e :: es) [] pos) (Wn sp OD E t):=by
 intro pins s σ H Q I h
 refine wpAny_Call_Name_kw (Jl I hg hm ?_ hdb)
 refine PySem.W.callWith_K (h₀:=X.base) I.ok.mod.kin hk (d7 (ha pos pins s σ H _ I h) fun us s1 ⟨vs,H1,I1,r,q⟩=>⟨I1.Dc,?_⟩) he hpl
 exact X4 F hr hb hd hx I1 r q
end
section
variable {X:Cx} {CX:KZ} {k:Nat} {f C:Addr} {fd:FuncData} {ps ks:List Str} {sp:Sp} {E:XK} {x m:Str} {p pos apos kpos:Pos} {e o:Expr} {es:List Expr} {kws:List Keyword} {te ta:TE} {t tk:TA} {nm:Option Str}
variable {g:List Value->List Value->List Value} {gV:List V->List V->List V}
end
structure bx (N P:List Str) (sc:Scope):Prop where
 kind:sc.kind=.function
 co:sc.isCoroutine=false
 gen:sc.isGenerator=false
 nd:N.Nodup
 pre:N.take P.length=P
 par:∀ x∈P,sc.names.lookup x=some .local∨sc.names.lookup x=some .cell
 X5:∀ y∈sc.names,y.2≠.free
theorem zp {kindOf:Str->Option NameKind} {x:Str}:∀ {binds:List (Str × Value)} {m:Str->Option Value},(∀ v,(x,v) ∉ binds)->bindL kindOf binds m x=m x
 | [],_,_=>rfl
 | (n,v) :: r,m,h=>by
   unfold bindL
   rw [zp fun w hw=>h w (List.mem_cons_of_mem _ hw)]
   split
   . have:x≠n:=by rintro rfl; exact h v List.mem_cons_self
     simp [this]
   . rfl
theorem zq {kindOf:Str->Option NameKind} {x:Str}:∀ {binds:List (Str × Value)} {m:Str->Option Value},(∀ v,(x,v) ∉ binds)->bindC kindOf binds m x=m x
 | [],_,_=>rfl
 | (n,v) :: r,m,h=>by
   unfold bindC
   rw [zq fun w hw=>h w (List.mem_cons_of_mem _ hw)]
   split
   . rfl
   . have:x≠n:=by rintro rfl; exact h v List.mem_cons_self
     simp [this]
theorem zu {kindOf:Str->Option NameKind} {x:Str} {v:Value}:∀ {P:List Str} {vs:List Value} {i:Nat} {m:Str->Option Value},P.Nodup->P[i]?=some x->vs[i]?=some v->kindOf x=some .local ->
   bindL kindOf (P.zip vs) m x=some v
 | [],_,_,_,_,h,_,_=>by simp at h
 | _ :: _,[],_,_,_,_,h,_=>by simp at h
 | p :: P,w :: vs,0,m,nd,h1,h2,hk=>by
   simp at h1 h2; subst h1; subst h2
   show bindL kindOf ((p,w) :: P.zip vs) m p=_
   unfold bindL
   rw [zp fun v hv=>(List.nodup_cons.mp nd).1 (List.of_mem_zip hv).1,if_pos hk]
   simp
 | p :: P,w :: vs,i+1,m,nd,h1,h2,hk=>by
   show bindL kindOf ((p,w) :: P.zip vs) m x=_
   unfold bindL
   exact zu (i:=i) (List.nodup_cons.mp nd).2 (by simpa using h1) (by simpa using h2) hk
theorem zx {kindOf:Str->Option NameKind} {x:Str} {v:Value}:∀ {P:List Str} {vs:List Value} {i:Nat} {m:Str->Option Value},P.Nodup->P[i]?=some x->vs[i]?=some v->kindOf x≠some .local ->
   bindC kindOf (P.zip vs) m x=some v
 | [],_,_,_,_,h,_,_=>by simp at h
 | _ :: _,[],_,_,_,_,h,_=>by simp at h
 | p :: P,w :: vs,0,m,nd,h1,h2,hk=>by
   simp at h1 h2; subst h1; subst h2
   show bindC kindOf ((p,w) :: P.zip vs) m p=_
   unfold bindC
   rw [zq fun v hv=>(List.nodup_cons.mp nd).1 (List.of_mem_zip hv).1,if_neg hk]
   simp
 | p :: P,w :: vs,i+1,m,nd,h1,h2,hk=>by
   show bindC kindOf ((p,w) :: P.zip vs) m x=_
   unfold bindC
   exact zx (i:=i) (List.nodup_cons.mp nd).2 (by simpa using h1) (by simpa using h2) hk
def start (N:List Str) (vs:List V):St:=vs.map some++List.replicate (N.length-vs.length) none
def K1 (CX:KZ) (P:Program) (w:World) (K:PySem.W.Frag) (mg:Str->Option Value) (base:Heap) (N:List Str) (qual:Str) (scope:Scope) (f:Addr) (cd:Value) (A:Around) (outer:List Env) (s:Shared) (H:Hp) (E:XK):Cx where
 prog:=P
 w:=w
 K:=K
 mg:=mg
 base:=base
 A:=A.deeper (envOfC qual scope s.heap.objs.size f cd)
 N:=N
 s₀:=s
 H₀:=H
 env:=envOfC qual scope s.heap.objs.size f cd
 outer:=outer
 stack:=envOfC qual scope s.heap.objs.size f cd :: outer
 ex:=[]
 calm:=true
 fn:=fun _=>true
 pn:=[]
 xe:=fun e s'=>wpAny (model P w) (A.deeper (envOfC qual scope s.heap.objs.size f cd)) (leaving (envOfC qual scope s.heap.objs.size f cd) e) (fun _ s''=>CX outer H s E e s'') (fun e' s''=>CX outer H s E e' s'') s'
theorem v8 {sc:Scope} {n:Nat} {x:Str} (h:sc.names.lookup x=some .cell):∃ c,(cellsFrom n sc.names []).lookup x=some c:=by
 have q:=PySem.W.cellsFrom_some sc.names n [] (.inl h)
 exact Option.isSome_iff_exists.mp q
theorem K3 {CX:KZ} {P:Program} {w:World} {K:PySem.W.Frag} {mg:Str->Option Value} {base:Heap} {N ps:List Str} {qual:Str} {scope:Scope} {f:Addr} {cd:Value} {A:Around} {outer:List Env} {s s1:Shared} {H:Hp} {E:XK} {us:List Value} {vs:List V}
   (S:bx N ps scope) (hd:A.handled=none) (e0:Tv P w K mg base A outer s H) (hl:vs.length=ps.length) (r:Vals vs us)
   (x:InCallC s s.heap.objs.size (bindL (envOfC qual scope s.heap.objs.size f cd).kindOf (ps.zip us) fun _=>none) (cellsFrom (s.heap.objs.size+1) scope.names []) (bindC (envOfC qual scope s.heap.objs.size f cd).kindOf (ps.zip us) fun _=>none) s1) :
   Inv (K1 CX P w K mg base N qual scope f cd A outer s H E) [] (start N vs) H s1:=by
 have hpl:ps.length<=N.length:=by have:=congrArg List.length S.pre; rw [List.length_take] at this; omega
 obtain ⟨h1,tk,rfl,hk⟩:=x.done
 have noA:∀ b:Addr,b ∉ (K1 CX P w K mg base N qual scope f cd A outer s H E).ex:=fun b z=>absurd (show b∈([]:List Addr) from z) (by simp)
 refine ⟨⟨e0.mod,S.kind,rfl,rfl,Nat.le_refl _,fun y z c h1 h2=>?_,fun y hy=>?_,fun y c _ h=>?_,fun _=>hd,Around.frames_deeper e0.frames,.inr ⟨rfl,rfl⟩,fun b z=>absurd z (noA b),e0.bs,e0.Wf,fun b _ _=>noA b,fun b z=>absurd z (noA b),e0.vY,e0.frf⟩,
   rfl,e0.bare,Un.kept hk,⟨_,x.toInCall.ns,fun i y v h1 h2 h3=>?_⟩,fun y c h=>⟨_,x.cell y c h⟩,e0.hok.fresh (Nat.le_refl _),fun y c h=>?_,fun p hp=>absurd (show p∈([]:List (Addr × Obj)) from hp) (by simp),e0.hok.kept hk,?_⟩
 . exact name_of_addr x.apart (PySem.mem_of_lookup h1) (PySem.mem_of_lookup h2)
 . have hy:scope.names.lookup y=some .cell∨scope.names.lookup y=some .free:=hy
   rcases hy with hy | hy
   . exact v8 hy
   . exact absurd rfl (S.X5 _ (PySem.mem_of_lookup hy))
 . exact Nat.le_of_lt (x.above y c (PySem.mem_of_lookup h))
 . have hi:i<vs.length:=by
     unfold start at h2
     by_cases hi:i<vs.length
     . exact hi
     . rw [List.getElem?_append_right (by simpa using hi)] at h2
       rw [List.getElem?_replicate] at h2
       split at h2 <;> cases h2
   have ha:vs[i]?=some v:=by
     unfold start at h2
     rw [List.getElem?_append_left (by simpa using hi),List.getElem?_map] at h2
     cases e:vs[i]? with
     | none=>rw [e] at h2; cases h2
     | some a=>rw [e] at h2; cases h2; rfl
   obtain ⟨u,hu,rv⟩:=r.get ha
   have hp:ps[i]?=some y:=by
     rw [<- S.pre,List.getElem?_take_of_lt (by omega)]; exact h1
   have ndP:ps.Nodup:=by rw [<- S.pre]; exact S.nd.sublist (List.take_sublist _ _)
   refine ⟨u,rv,?_⟩
   rcases S.par y (List.mem_of_getElem? hp) with k | k
   . exact .inl ⟨k,zu ndP hp hu k⟩
   . obtain ⟨c,e⟩:=v8 (n:=s.heap.objs.size+1) k
     refine .inr ⟨.inl k,c,e,?_⟩
     have q:=x.cell y c e
     rw [zx ndP hp hu (by show scope.names.lookup y≠_; rw [k]; decide)] at q
     exact q
 . exact e0.hok.fresh (Nat.le_of_lt (x.above y c (PySem.mem_of_lookup h)))
 . unfold start
   show _=N.length
   rw [List.length_append,List.length_map,List.length_replicate]
   omega
theorem abb {CX:KZ} {P:Program} {w:World} {K:PySem.W.Frag} {mg:Str->Option Value} {base:Heap} {k:Nat} {f:Addr} {name qual:Str} {params:Arguments} {body:List Stmt} {scope:Scope} {dV kV doc pm cdv ct oc:Value} {an od:Option Addr}
   {osl:Array (Option Value)} {N ps:List Str} {sp:Sp} (lk:K.lookup f=some ⟨oc,od,.func (PySem.W.fnOf name qual params body scope dV kV doc pm an cdv ct),osl⟩) (hcd:PySem.W.codeIn K cdv qual=true) (S:bx N ps scope)
   (len:∀ vs H Q E,sp vs H Q E->vs.length=ps.length)
   (hbody:∀ (A:Around) (outer:List Env) (s:Shared) (H:Hp) (vs:List V) (Q:VK) (E:XK),lG k (A.deeper (envOfC qual scope s.heap.objs.size f cdv))->sp vs H Q E ->
     ∃ t,Gn (K1 CX P w K mg base N qual scope f cdv A outer s H E) body t/\t { nx:=fun _ H'=>Q .non H',rt:=Q } (start N vs) H) :
   aQ P w K mg base CX (k+1) f (PySem.W.fnOf name qual params body scope dV kV doc pm an cdv ct) ps sp:=by
 refine ⟨len,fun A outer s H args us vs Q E hr e0 hb r hsp=>?_⟩
 have hl:=len _ _ _ _ hsp
 have KX:K.In s.heap:=e0.mod.kin.keeps fun b o e=>(e0.bs b o e).1
 have lim:s.heap.NoLimit:=e0.mod.nolimit.keeps fun b o e=>(e0.bs b o e).1
 have hkind:∀ y∈ps.zip us,scope.names.lookup y.1=some .local∨(scope.names.lookup y.1=some .cell/\((cellsFrom (s.heap.objs.size+1) scope.names []).lookup y.1).isSome=true):=fun ⟨n,v⟩ hy=>by
   rcases S.par n (List.of_mem_zip hy).1 with q | q
   . exact .inl q
   . exact .inr ⟨q,PySem.W.cellsFrom_some _ _ _ (.inl q)⟩
 refine codeAny_call_function hr.depth (KX _ _ lk) rfl S.co S.gen rfl (PySem.W.codeRec_of KX hcd) (hb _ _ _ _ ?_)
 refine wpAny_newFunctionEnv_cells S.kind hkind fun env he s1 x=>?_
 subst he
 refine ⟨lim.keeps x.toInCall.keep,codeAny_func ?_⟩
 obtain ⟨t,ht,hq⟩:=hbody A outer s H vs Q E (hr.deeper _) hsp
 have I:Inv (K1 CX P w K mg base N qual scope f cdv A outer s H E) [] (start N vs) H s1:=K3 S hr.hd e0 hl r x
 refine wpAny_mono (ht [] s1 (start N vs) H _ I hq) (fun fl s' hs=>?_) fun e s' hs=>hs
 have fin:∀ {σ':St} {H':Hp} {v:V} {u:Value},Inv (K1 CX P w K mg base N qual scope f cdv A outer s H E) [] σ' H' s'->RelV v u->Q v H'->CE outer P w H s Q u s' :=
   fun {σ' H' v u} J rv q=>⟨v,H',J.os,J.bare,J.base,J.hok,rv,q⟩
 cases fl with
 | ret u =>
   obtain ⟨v,σ',H',J,rv,q⟩:=hs
   exact fin J rv q
 | next =>
   obtain ⟨σ',H',J,q⟩:=hs
   exact fin (v:=V.non) (u:=Value.none) J rfl q
 | brk =>
   obtain ⟨_,_,_,q⟩:=hs
   exact False.elim q
 | cont =>
   obtain ⟨_,_,_,q⟩:=hs
   exact False.elim q
end L2
namespace L2
open PySem PySem.Spec PyProof.Rows
section
variable {X:Cx} {x:Str} {p pos:Pos} {e:Expr} {es:List Expr} {t:TA} {id T:String} {r:List V->Hp->VK->Prop}
def tCB (r:List V->Hp->VK->Prop) (t:TA):TE:=fun σ H Q=>t σ H fun vs H1=>r vs H1 Q
theorem aP (hc:gU X (.builtin id) r) (hg:Gl X x) (hm:X.mg x=none) (hv:bootBuiltins x=some (.builtin id)) (ha:PA X (e :: es) t) (hn:x≠"__name__":=by decide) (hdb:(x == ("__debug__" : Str))=false:=by decide)
   (he:starEach (e :: es) X.env=(false,eval e X.env) :: starEach es X.env:=by rfl) (hpl:(backTo pos (starEach es X.env)).any (·.1)=false:=by rfl):PE X (.Call (.Name x p) (e :: es) [] pos) (tCB r t):=by
 intro pins s σ H Q I h
 refine wpAny_Call_Name_kw (qC I hg hm hv ?_ hn hdb)
 exact PyProof.Rows.callWith_builtin1 (d7 (ha pos pins s σ H _ I h) fun us s1 ⟨vs,H1,I1,r1,q1⟩=>hc pins s1 σ H1 vs us Q I1 r1 q1) he hpl
theorem cZ (hc:gU X (.type T) r) (hg:Gl X x) (hm:X.mg x=none) (hv:bootBuiltins x=some (.type T)) (ha:PA X (e :: es) t) (hn:x≠"__name__":=by decide) (hdb:(x == ("__debug__" : Str))=false:=by decide)
   (he:starEach (e :: es) X.env=(false,eval e X.env) :: starEach es X.env:=by rfl) (hpl:(backTo pos (starEach es X.env)).any (·.1)=false:=by rfl):PE X (.Call (.Name x p) (e :: es) [] pos) (tCB r t):=by
 intro pins s σ H Q I h
 refine wpAny_Call_Name_kw (qC I hg hm hv ?_ hn hdb)
 exact PyProof.Rows.callWith_type1 (d7 (ha pos pins s σ H _ I h) fun us s1 ⟨vs,H1,I1,r1,q1⟩=>hc pins s1 σ H1 vs us Q I1 r1 q1) he hpl
end
end L2
namespace HT
open PySem PyProof.Rows
section
open PySem.SeqAt
open PySem.AutoSeq1 (wpAny_loadPart')
open PySem.MeetsSeq PySem.MeetsSeq2 PySem.MeetsSeq3
end
section
variable {prog:Program} {w:World} {A:Around} {E:Value->Shared->Prop} {s:Shared}
theorem Tw {t b:Addr} {vs ws:List Value} {Q:Value->Shared->Prop} (ht:IsTup s.heap t vs.toArray) (hb:IsTup s.heap b ws.toArray) (hv:vs≠[])
   (h1:ws=[]->Q (.ref t) s) (h2:ws≠[]->Q (.ref s.heap.objs.size) { s with heap:=s.heap.push { cls:=.type "tuple",data:=.seq (vs++ws).toArray } })
   (hsz:vs.length+ws.length<=sizeLine):wpAny (model prog w) A (binaryOp .Add (.ref t) (.ref b)) Q E s:=by
 obtain ⟨⟨cls,dd,data,sl⟩,ho,hc,n,hd⟩:=id ht
 obtain ⟨⟨cls2,dd2,data2,sl2⟩,ho2,hc2,n2,hd2⟩:=id hb
 simp only at hc hd hc2 hd2
 subst hc hd hc2 hd2
 have e:vs.toArray++ws.toArray=(vs++ws).toArray:=by simp
 by_cases hw:ws=[]
 . exact concat_meets ⟨_,ho,rfl⟩ ⟨_,ho2,rfl⟩ noFill_tuple_add seq_tuple_add PySem.F.slot_tuple_add PySem.F.entry_tuple_add (PySem.F.args_tuple_add_2 _ _)
     (tuple_addW1 t b vs.toArray ws.toArray n n2 dd dd2 sl sl2 (by simpa using hv) (by simp [hw])) ⟨ho,ho2,h1 hw⟩
 . refine concat_meets ⟨_,ho,rfl⟩ ⟨_,ho2,rfl⟩ noFill_tuple_add seq_tuple_add PySem.F.slot_tuple_add PySem.F.entry_tuple_add (PySem.F.args_tuple_add_2 _ _)
     (tuple_addW2 t b vs.toArray ws.toArray n n2 dd dd2 sl sl2 (by simpa using hv) (by simpa using hw) (by rw [List.size_toArray,List.size_toArray]; exact hsz)) ⟨ho,ho2,?_⟩
   rw [e]
   exact h2 hw
def fG (n d:Nat):Option Int->Nat
 | none=>d
 | some v=>if v<0 then (v+(n:Int)).toNat else min v.toNat n
theorem jz (n d:Nat):fG n d none=d:=rfl
theorem gZ (n d k:Nat):fG n d (some (k:Int))=min k n:=by
 show (if (k:Int)<0 then ((k:Int)+(n:Int)).toNat else min (k:Int).toNat n)=min k n
 rw [if_neg (by omega),Int.toNat_natCast]
theorem X6 (n d:Nat) (hd:d<=n) (o:Option Int):fG n d o<=n:=by
 cases o with
 | none=>exact hd
 | some v =>
   show (if v<0 then (v+(n:Int)).toNat else min v.toNat n)<=n
   by_cases hv:v<0
   . rw [if_pos hv]; omega
   . rw [if_neg hv]; exact Nat.min_le_right _ _
theorem Jr (v:Int) (n d:Nat):(if v<0 then max (v+(n:Int)) 0 else min v (n:Int))=((fG n d (some v):Nat):Int):=by
 show (if v<0 then max (v+(n:Int)) 0 else min v (n:Int))=(((if v<0 then (v+(n:Int)).toNat else min v.toNat n):Nat):Int)
 by_cases hv:v<0
 . simp only [if_pos hv]; omega
 . simp only [if_neg hv]; omega
theorem Gw (lo hi:Option Int) (n:Nat):Builtin.Slice.sliceAdjust lo hi 1 (n:Int)=(((fG n 0 lo:Nat):Int),((fG n n hi:Nat):Int)):=by
 have h1:¬ ((1:Int)<0):=by omega
 unfold Builtin.Slice.sliceAdjust
 simp only [h1,if_false]
 refine Prod.ext ?_ ?_
 . cases lo with
   | none=>rfl
   | some v=>exact Jr v n 0
 . cases hi with
   | none=>rfl
   | some v=>exact Jr v n n
theorem Gx (i j:Nat):Builtin.Slice.slicePlaces (i:Int) (j:Int) 1=j-i:=by
 unfold Builtin.Slice.slicePlaces
 have h1:(1:Int) > 0:=by omega
 simp only [h1,if_true,Int.ediv_one]
 split <;> omega
theorem v9 {v:Value} {o:Option Int} {Q:Option Int->Shared->Prop} (p:IsPart v o) (h:Q o s):wpAny (model prog w) A (Builtin.Slice.slicePartIndex v) Q E s:=by
 cases p with
 | none=>exact slicePart_none h
 | int i t=>exact slicePart_int h
theorem lQ {sl:Addr} {vl vu:Value} {lo hi:Option Int} {n:Nat} {Q:Int × Int × Nat->Shared->Prop} (hs:s.heap.IsSliceOf sl vl vu .none) (pl:IsPart vl lo) (pu:IsPart vu hi)
   (h:Q (((fG n 0 lo:Nat):Int),1,fG n n hi-fG n 0 lo) s):wpAny (model prog w) A (Builtin.Slice.sliceApplied (.ref sl) (pure (n:Int))) Q E s:=by
 obtain ⟨os,hos,hcs,hds⟩:=id hs
 unfold Builtin.Slice.sliceApplied Builtin.Slice.sliceFields
 refine wpAny_bind (wpAny_bind (wpAny_field hos hds (x:=vl) rfl (wpAny_bind (wpAny_field hos hds (x:=vu) rfl (wpAny_bind (wpAny_field hos hds (x:=.none) rfl (wpAny_pure ?_)))))))
 refine wpAny_bind (slicePart_none ?_)
 show wpAny _ _ (if ((1:Int) == 0)=true then _ else _) _ _ s
 rw [if_neg (by decide)]
 refine wpAny_bind (v9 pl (wpAny_bind (v9 pu (wpAny_bind (wpAny_pure ?_)))))
 show wpAny _ _ (match Builtin.Slice.sliceAdjust lo hi 1 (n:Int) with | (lo,hi)=>pure (lo,(1:Int),Builtin.Slice.slicePlaces lo hi 1)) _ _ s
 rw [Gw lo hi n]
 show wpAny _ _ (pure (((fG n 0 lo:Nat):Int),(1:Int),Builtin.Slice.slicePlaces ((fG n 0 lo:Nat):Int) ((fG n n hi:Nat):Int) 1)) _ _ s
 rw [Gx]
 exact wpAny_pure h
theorem OJ (xs:Array Value) (i k:Nat):((List.range k).filterMap fun (m:Nat)=>xs[((i:Int)+(m:Int) * 1).toNat]?).toArray=((xs.toList.drop i).take k).toArray:=by
 have e:(fun (m:Nat)=>xs[((i:Int)+(m:Int) * 1).toNat]?)=fun m=>xs[i+m]?:=by
   funext m
   have:((i:Int)+(m:Int) * 1).toNat=i+m:=by omega
   rw [this]
 rw [e]
 have:=pick_run xs i k
 rw [List.filterMap_map] at this
 have e2:((fun x=>xs[x]?)∘fun x=>i+x)=fun m=>xs[i+m]?:=rfl
 rw [e2] at this
 rw [this]
theorem rN {t sl:Addr} {items:Array Value} {vl vu:Value} {lo hi:Option Int} {Q:Value->Shared->Prop} (ht:IsTup s.heap t items) (hs:s.heap.IsSliceOf sl vl vu .none) (pl:IsPart vl lo) (pu:IsPart vu hi)
   (hw:¬ (fG items.size 0 lo=0/\fG items.size items.size hi=items.size))
   (h:Q (.ref s.heap.objs.size) { s with heap:=s.heap.push { cls:=.type "tuple",data:=.seq ((items.toList.drop (fG items.size 0 lo)).take (fG items.size items.size hi-fG items.size 0 lo)).toArray } })
   (hsz:items.size<=sizeLine):wpAny (model prog w) A (getItem (.ref t) (.ref sl)) Q E s:=by
 have Js:sizeOk (.seq ((items.toList.drop (fG items.size 0 lo)).take (fG items.size items.size hi-fG items.size 0 lo)).toArray):=by
   show ((items.toList.drop (fG items.size 0 lo)).take (fG items.size items.size hi-fG items.size 0 lo)).toArray.size<=sizeLine
   rw [List.size_toArray,List.length_take,List.length_drop,Array.length_toList]
   omega
 have hj:fG items.size items.size hi<=items.size:=X6 _ _ (Nat.le_refl _) hi
 obtain ⟨os,hos,hcs,hds⟩:=id hs
 have hTs:s.TypeIs (.ref sl) "slice":=⟨os,hos,hcs⟩
 unfold getItem
 try with_reducible refine wpAny_holding ?_
 first | refine wpAny_bind (wpAny_pure ?_) | skip
 refine wpAny_bind (wpAny_sequenceKey ht.typeIs (by decide) ?_)
 refine wpAny_bind (wpAny_callSpecial?_slot (name:=Str.ofString "__getitem__") ht.typeIs PyProof.Rows.slot_tuple_getitem
   (wpAny_call_entry PyProof.Rows.slot_tuple_getitem ht.typeIs entry_tuple_getitem ?_ (args_tuple_getitem _ _)))
 show wpAny _ _ (Builtin.Tuple.tupleItemsOf (.ref t) >>= _) _ _ s
 refine wpAny_bind (tupleItemsOf_ ht ?_)
 refine wpAny_bind (wpAny_typeOf hTs ?_)
 rw [if_pos (by decide)]
 refine wpAny_bind (lQ hs pl pu ?_)
 have hno:¬ ((((fG items.size 0 lo:Nat):Int) == 0 && (1:Int) == 1 && (fG items.size items.size hi-fG items.size 0 lo) == items.size)=true):=by
   intro q
   rw [Bool.and_eq_true,Bool.and_eq_true] at q
   have q1:((fG items.size 0 lo:Nat):Int)=0:=eq_of_beq q.1.1
   have q2:fG items.size items.size hi-fG items.size 0 lo=items.size:=eq_of_beq q.2
   exact hw ⟨by omega,by omega⟩
 show wpAny _ _ (if (((fG items.size 0 lo:Nat):Int) == 0 && (1:Int) == 1 && (fG items.size items.size hi-fG items.size 0 lo) == items.size)=true then _ else _) _ _ s
 rw [if_neg hno,OJ]
 first
   | exact wpAny_bind (m:=Builtin.Tuple.tupleExact _) (wpAny_newObj_type (wpAny_pure ⟨_,rfl,wpAny_pure h⟩) Js)
   | exact wpAny_bind (m:=Builtin.Tuple.tupleExact _) (wpAny_newObj_type (wpAny_bind (wpAny_pure (wpAny_pure ⟨_,rfl,wpAny_pure h⟩))) Js)
   | exact wpAny_bind (wpAny_bind (m:=Builtin.Tuple.tupleExact _) (wpAny_newObj_type (wpAny_pure (wpAny_pure ⟨_,rfl,wpAny_pure h⟩)) Js))
   | exact wpAny_bind (wpAny_bind (m:=Builtin.Tuple.tupleExact _) (wpAny_newObj_type (wpAny_pure ⟨_,rfl,wpAny_pure h⟩) Js))
end
end HT
namespace L2
open PySem PySem.Spec PyProof.Rows
abbrev TO:=St->Hp->(Option Int->Hp->Prop)->Prop
def PO (X:Cx) (e:Option Expr) (t:TO):Prop :=
 ∀ (pins:List (Addr × Obj)) (s:Shared) (σ:St) (H:Hp) (Q:Option Int->Hp->Prop),Inv X pins σ H s->t σ H Q ->
   wpAny (model X.prog X.w) X.A (evalPart e X.env) (fun u s'=>∃ o H',Inv X pins σ H' s'/\IsPart u o/\Q o H') X.xe s
def mX:TO:=fun _ H Q=>Q none H
section
variable {X:Cx} {e:Expr} {te:TE} {lo hi:Option Expr} {tl th:TO} {pos p2:Pos}
theorem eY:PO X none mX:=by
 intro pins s σ H Q I h
 rw [evalPart_none]
 exact wpAny_pure ⟨none,H,I,.none,h⟩
def X7 (X:Cx) (r:V->Option Int->Option Int->Hp->VK->Prop):Prop :=
 ∀ (pins:List (Addr × Obj)) (s:Shared) (σ:St) (H:Hp) (x:V) (v vl vu:Value) (lo hi:Option Int) (sl:Addr) (Q:VK),Inv X pins σ H s->RelV x v->s.heap.IsSliceOf sl vl vu .none->IsPart vl lo->IsPart vu hi->r x lo hi H Q ->
   ∃ T id,typeLookup (.type T) "__getitem__" = pure (some (.builtin id))/\s.TypeIs v T/\wpAny (model X.prog X.w) X.A (getItem v (.ref sl)) (EP X pins σ Q) X.xe s
def X8 (r:V->Option Int->Option Int->Hp->VK->Prop) (te:TE) (tl th:TO):TE:=fun σ H Q=>te σ H fun x H1=>tl σ H1 fun l H2=>th σ H2 fun u H3=>r x l u H3 Q
theorem cO {r:V->Option Int->Option Int->Hp->VK->Prop} (hr:X7 X r) (he:PE X e te) (hl:PO X lo tl) (hu:PO X hi th):PE X (.Subscript e (.Slice lo hi none p2) pos) (X8 r te tl th):=by
 intro pins s σ H Q I h
 refine Subscript_ (d7 (he pins s σ H _ I h) fun v s1 ⟨x,H1,I1,r1,q1⟩=>?_)
 refine wpAny_Slice (d7 (hl pins s1 σ H1 _ I1 q1) fun vl s2 ⟨l,H2,I2,pl,q2⟩=>d7 (hu pins s2 σ H2 _ I2 q2) fun vu s3 ⟨u,H3,I3,pu,q3⟩=>?_)
 rw [evalPart_none]
 refine wpAny_pure ?_
 have I4:Inv X pins σ H3 { s3 with heap:=s3.heap.push { cls:=.type "slice",data:=.fields #[vl,vu,.none] } }:=I3.kept (t':=s3.toks) fun b ob q=>Heap.get?_push_of_some _ q
 obtain ⟨T,id,hT,ht,hg⟩:=hr pins { s3 with heap:=s3.heap.push { cls:=.type "slice",data:=.fields #[vl,vu,.none] } } σ H3 x v vl vu l u s3.heap.objs.size Q I4 r1 (Heap.IsSliceOf.new ..) pl pu q3
 show wpAny (model X.prog X.w) X.A (subscriptTail e (.Slice lo hi none p2) v (.ref s3.heap.objs.size)) (EP X pins σ Q) X.xe { s3 with heap:=s3.heap.push { cls:=.type "slice",data:=.fields #[vl,vu,.none] } }
 exact tail_any (ops:=[.ref s3.heap.objs.size,v]) ht hT hg (by with_unfolding_all rfl)
def jP (xs:List V) (lo hi:Option Int):List V:=(xs.drop (HT.fG xs.length 0 lo)).take (HT.fG xs.length xs.length hi-HT.fG xs.length 0 lo)
theorem oN (xs:List V) (lo hi:Option Int):(jP xs lo hi).length<=xs.length:=by
 unfold jP
 rw [List.length_take,List.length_drop]
 omega
def aeT (K:PySem.W.Frag):V->Option Int->Option Int->Hp->VK->Prop:=fun x lo hi H Q=>∃ a xs,x=.ref a/\bU K H a xs /\
 ¬ (HT.fG xs.length 0 lo=0/\HT.fG xs.length xs.length hi=xs.length)/\∀ p,H p=none->Q (.ref p) (upd H p (.tup (jP xs lo hi)))
theorem O1:X7 X (aeT X.K):=by
 intro pins s σ H x v vl vu lo hi sl Q I rx hs pl pu h
 obtain ⟨a,xs,rfl,hx,hw,q⟩:=h
 cases rx
 obtain ⟨its,r,ht,hz⟩:=I.tuple hx
 have hlen:its.toArray.size=xs.length:=by rw [List.size_toArray]; exact r.length.symm
 refine ⟨"tuple",_,PyProof.Rows.slot_tuple_getitem.lookup,ht.typeIs,?_⟩
 refine HT.rN ht hs pl pu (by rw [hlen]; exact hw) ?_ (by rw [hlen]; exact hz)
 rw [hlen]
 refine ⟨.ref s.heap.objs.size,_,I.laid (t':=s.toks) (o:=.tup (jP xs lo hi)) (fun b ob q=>Heap.get?_push_of_some _ q) (Nat.le_refl _) ?_,rfl,q _ (I.hok.fresh (Nat.le_refl _))⟩
 exact ⟨Nat.le_trans (oN xs lo hi) hz,_,(r.drop (HT.fG xs.length 0 lo)).take (HT.fG xs.length xs.length hi-HT.fG xs.length 0 lo),jY.new _ _⟩
def abd (K:PySem.W.Frag):R2:=fun x y H Q=>∃ a b xs ys,x=.ref a/\y=.ref b/\bU K H a xs/\bU K H b ys/\xs≠[]/\xs.length+ys.length<=sizeLine /\
 (ys=[]->Q (.ref a) H)/\(ys≠[]->∀ p,H p=none->Q (.ref p) (upd H p (.tup (xs++ys))))
theorem Vals.pL {xs:List V} {us:List Value} (r:Vals xs us):us=[]↔xs=[]:=by
 cases r with
 | nil=>simp
 | cons _ _=>simp
theorem Tz:iD X (binaryOp .Add) (abd X.K):=by
 intro pins s σ H x y v u Q I rx ry h
 obtain ⟨a,b,xs,ys,rfl,rfl,ha,hb,hx,hz,q1,q2⟩:=h
 cases rx
 cases ry
 obtain ⟨its,r1,p1,_⟩:=I.tuple ha
 obtain ⟨its2,r2,p2,_⟩:=I.tuple hb
 refine HT.Tw p1 p2 (fun z=>hx (r1.pL.mp z)) (fun z=>⟨.ref a,H,I,rfl,q1 (r2.pL.mp z)⟩) (fun z=>?_) (by rw [<- r1.length,<- r2.length]; exact hz)
 refine ⟨.ref s.heap.objs.size,_,I.laid (t':=s.toks) (o:=.tup (xs++ys)) (fun b ob q=>Heap.get?_push_of_some _ q) (Nat.le_refl _) ?_,rfl,q2 (fun w=>z (r2.pL.mpr w)) _ (I.hok.fresh (Nat.le_refl _))⟩
 exact ⟨by rw [List.length_append]; exact hz,_,r1.append r2,jY.new _ _⟩
end
end L2
namespace L2
open PySem PySem.Spec PyProof.Rows
def TF (n:Nat) (i:Int):Option Nat:=if 0<=i then (if i<n then some i.toNat else none) else if -(n:Int)<=i then some (i+n).toNat else none
def Ay {α:Type} (xs:List α) (i:Int):Option α:=(TF xs.length i).bind fun j=>xs[j]?
theorem Jt {n:Nat} {i:Int} {j:Nat} (h:TF n i=some j):seqIndex? i n=some j/\j<n/\-(n:Int)<=i/\i<n:=by
 unfold TF at h
 by_cases h0:0<=i
 . rw [if_pos h0] at h
   by_cases h1:i<n
   . rw [if_pos h1] at h
     have e:i.toNat=j:=Option.some.inj h
     exact ⟨by rw [seqIndex_of h0 h1,e],by omega,by omega,h1⟩
   . rw [if_neg h1] at h; cases h
 . rw [if_neg h0] at h
   by_cases h1:-(n:Int)<=i
   . rw [if_pos h1] at h
     have e:(i+n).toNat=j:=Option.some.inj h
     exact ⟨by rw [seqIndex_neg (by omega) h1,e],by omega,h1,by omega⟩
   . rw [if_neg h1] at h; cases h
theorem Az {α:Type} {xs:List α} {i:Int} {v:α} (h:Ay xs i=some v):∃ j,seqIndex? i xs.length=some j/\xs[j]?=some v/\j<xs.length/\-(xs.length:Int)<=i/\i<xs.length:=by
 unfold Ay at h
 cases e:TF xs.length i with
 | none=>rw [e] at h; cases h
 | some j =>
   rw [e] at h
   obtain ⟨h1,h2,h3,h4⟩:=Jt e
   exact ⟨j,h1,h,h2,h3,h4⟩
theorem iR {α:Type} {xs:List α} {j:Nat} {v:α} (h:xs[j]?=some v):Ay xs (j:Int)=some v:=by
 have hj:j<xs.length:=(List.getElem?_eq_some_iff.mp h).1
 have e:TF xs.length (j:Int)=some j:=by
   unfold TF
   rw [if_pos (by omega),if_pos (by omega)]; simp
 unfold Ay; rw [e]; exact h
def Ju (b:Expr):Prop:=∀ o i,subscripted b false o i=operate [o,i] (getItem o i)
def Wo (X:Cx) (r:R2):Prop :=
 ∀ (value slice:Expr) (pins:List (Addr × Obj)) (s:Shared) (σ:St) (H:Hp) (x y:V) (v u:Value) (Q:VK),Inv X pins σ H s->RelV x v->RelV y u->r x y H Q ->
   subscripted slice false v u=operate [v,u] (getItem v u)->wpAny (model X.prog X.w) X.A (subscriptTail value slice v u) (EP X pins σ Q) X.xe s
def MtR (X:Cx) (id:String) (r:V->List V->Hp->VK->Prop):Prop :=
 ∀ (pins:List (Addr × Obj)) (s:Shared) (σ:St) (H:Hp) (x:V) (xs:List V) (v:Value) (us:List Value) (Q:VK),Inv X pins σ H s->RelV x v->Vals xs us->r x xs H Q ->
   wpAny (model X.prog X.w) X.A (call (.builtin id) (v :: us)) (EP X pins σ Q) X.xe s
section
variable {X:Cx} {a b:Expr} {ta tb:TE} {pos:Pos}
theorem bR {r:R2} (hr:Wo X r) (ha:PE X a ta) (hb:PE X b tb) (hs:Ju b):PE X (.Subscript a b pos) (Jm r ta tb):=by
 intro pins s σ H Q I h
 exact Subscript_ (XD ha hb I h fun v u s2 x y H2 I2 rx ry q=>hr a b pins s2 σ H2 x y v u Q I2 rx ry q (hs _ _))
def abf (K:PySem.W.Frag):R2:=fun x y H Q=>∃ p xs i v,x=.ref p/\y=.int i/\dw K H p xs/\Ay xs i=some v/\Q v H
def abg (K:PySem.W.Frag):R2:=fun x y H Q=>∃ p xs i v,x=.ref p/\y=.int i/\bU K H p xs/\Ay xs i=some v/\Q v H
def abh:R2:=fun x y H Q=>∃ z i c,x=.str z/\y=.int i/\z.length<=sizeLine/\Ay z.cps.toList i=some c/\Q (.str ⟨#[c]⟩) H
theorem TQ:Wo X (abf X.K):=by
 intro value slice pins s σ H x y v u Q I rx ry h hs
 obtain ⟨p,xs,i,z,rfl,rfl,hq,he,q⟩:=h
 cases rx
 obtain ⟨t,rfl⟩:=ry
 obtain ⟨its,r,pl,hz⟩:=I.list hq
 obtain ⟨j,h1,h2,h3,h4,h5⟩:=Az he
 obtain ⟨w,ew,KH⟩:=r.get h2
 have hl:=r.length
 have hn:=tO
 have fin:EP X pins σ Q w s:=⟨z,H,I,KH,q⟩
 by_cases h0:0<=i
 . have hj:i.toNat=j:=by
     rw [seqIndex_of h0 h5] at h1
     exact Option.some.inj h1
   exact item_listR pl.isList h0 (by omega) (by rw [hj]; simpa using ew) fin hs
 . have hj:(i+(its.toArray.size:Int)).toNat=j:=by
     rw [seqIndex_neg (by omega) h4] at h1
     rw [List.size_toArray,<- hl]
     exact Option.some.inj h1
   exact subscriptTail_builtinR (x:=w) pl.isList.typeIs slot_list_getitem.lookup
     (wpAny_getItem_list_neg (Q:=fun r s'=>r=w/\EP X pins σ Q r s') pl.isList (by omega) (by rw [List.size_toArray] <;> omega) (by omega) (by rw [hj]; simpa using ew) ⟨rfl,fin⟩) hs
theorem Yb:Wo X (abg X.K):=by
 intro value slice pins s σ H x y v u Q I rx ry h hs
 obtain ⟨p,xs,i,z,rfl,rfl,hq,he,q⟩:=h
 cases rx
 obtain ⟨t,rfl⟩:=ry
 obtain ⟨its,r,pl,hz⟩:=I.tuple hq
 obtain ⟨j,h1,h2,h3,h4,h5⟩:=Az he
 obtain ⟨w,ew,KH⟩:=r.get h2
 have hl:=r.length
 have hn:=tO
 have fin:EP X pins σ Q w s:=⟨z,H,I,KH,q⟩
 exact subscriptTail_builtinR (x:=w) pl.typeIs slot_tuple_getitem.lookup
   (getItem_tuple (j:=j) (Q:=fun r s'=>r=w/\EP X pins σ Q r s') pl (by omega) (by omega) (by rw [List.size_toArray,<- hl]; exact h1) (by simpa using ew) ⟨rfl,fin⟩) hs
theorem Yc:Wo X abh:=by
 intro value slice pins s σ H x y v u Q I rx ry h hs
 obtain ⟨z,i,c,rfl,rfl,hz,he,q⟩:=h
 obtain ⟨t,rfl⟩:=rx
 obtain ⟨t',rfl⟩:=ry
 obtain ⟨j,h1,h2,h3,h4,h5⟩:=Az he
 have hl:z.cps.toList.length=z.length:=by simp [Str.length]
 rw [hl] at h1 h4 h5
 have hn:=tO
 exact tail_any (typeIs_str s z t) slot_str_getitem.lookup (getItem_str (c:=c) (by
   have e1:decide (i < -(2 ^ 63:Int))=false:=decide_eq_false (by omega)
   have e2:decide (i ≥ 2 ^ 63)=false:=decide_eq_false (by omega)
   rw [e1,e2,Bool.or_false]) (by rw [h1]; simpa using h2) ⟨.str ⟨#[c]⟩,H,I.tok _,⟨_,rfl⟩,q⟩) hs
theorem Gy (its:List Value) (n j:Nat) (u:Value):Obj.mapSeq (·.setIfInBounds j u) { cls:=.type "list",data:=.seq its.toArray n }={ cls:=.type "list",data:=.seq (its.set j u).toArray n }:=by
 simp [Obj.mapSeq]
theorem Inv.lst {pins:List (Addr × Obj)} {σ:St} {H:Hp} {s:Shared} {p:Addr} {xs:List V} (I:Inv X pins σ H s) (h:H p=some (.lst xs)) :
   ∃ (its:List Value) (n:Nat),Vals xs its/\s.heap.get? p=some { cls:=.type "list",data:=.seq its.toArray n }/\xs.length<=sizeLine:=by
 obtain ⟨z,its,n,r,e⟩:=I.hok p _ h
 exact ⟨its,n,r,e,z⟩
theorem Inv.Yd {pins:List (Addr × Obj)} {σ:St} {H:Hp} {s:Shared} {p:Addr} {xs ys:List V} {its its':List Value} {n n':Nat} {f:Obj->Obj} (I:Inv X pins σ H s) (h:H p=some (.lst xs))
   (ho:s.heap.get? p=some { cls:=.type "list",data:=.seq its.toArray n }) (hf:f { cls:=.type "list",data:=.seq its.toArray n }={ cls:=.type "list",data:=.seq its'.toArray n' }) (r:Vals ys its') (hz:ys.length<=sizeLine) (t:Nat) :
   Inv X pins σ (upd H p (.lst ys)) { s with heap:=s.heap.update p f,toks:=t }:=by
 have e:(s.heap.update p f).get? p=some { cls:=.type "list",data:=.seq its'.toArray n' }:=by
   rw [Heap.get?_update_self f ho (by rw [hf] <;> rfl),hf]
 refine I.write (x:=p) (e:=p) (by rw [h]; trivial) (.inl rfl) (fun b u hb q=>(Heap.get?_update_other _ _ (Ne.symm hb)).trans q) ⟨_,e⟩ ?_
 exact ⟨hz,its',n',r,e⟩
def Wq:V->V->V->Hp->(Hp->Prop)->Prop:=fun o i v H Q=>∃ p xs k j,o=.ref p/\i=.int k/\H p=some (.lst xs)/\TF xs.length k=some j/\Q (upd H p (.lst (xs.set j v)))
theorem set_list:Xw X Wq:=by
 intro pins s σ H o i v ov iv u Q I ro ri rv h
 obtain ⟨p,xs,k,j,rfl,rfl,hp,hj,q⟩:=h
 cases ro
 obtain ⟨t,rfl⟩:=ri
 obtain ⟨its,n,r,ho,hz⟩:=I.lst hp
 obtain ⟨h1,h2,h3,h4⟩:=Jt hj
 have hl:=r.length
 have hn:=tO
 have I':Inv X pins σ (upd H p (.lst (xs.set j v))) { s with heap:=s.heap.update p (Obj.mapSeq (·.setIfInBounds j u)) } :=
   I.Yd hp ho (Gy its n j u) (r.set rv j) (by rw [List.length_set]; exact hz) s.toks
 by_cases h0:0<=k
 . have hk:k.toNat=j:=by
     rw [seqIndex_of h0 h4] at h1
     exact Option.some.inj h1
   exact PySem.W.ki_setAt ho h0 (by omega) (by rw [List.size_toArray,<- hl]; exact h4) (by rw [hk]; exact ⟨_,I',q⟩)
 . have hk:(k+(its.toArray.size:Int)).toNat=j:=by
     rw [seqIndex_neg (by omega) h3] at h1
     rw [List.size_toArray,<- hl]
     exact Option.some.inj h1
   exact PySem.W.ki_setBack ho (by omega) (by rw [List.size_toArray,<- hl]; exact h3) (by omega) (by rw [hk]; exact ⟨_,I',q⟩)
theorem Ba (lo hi:Option Int) (n:Nat):(sliceBounds lo hi none n).1=((HT.fG n 0 lo:Nat):Int)/\(sliceBounds lo hi none n).2.1=((HT.fG n n hi:Nat):Int)/\(sliceBounds lo hi none n).2.2=1:=by
 refine ⟨?_,?_,rfl⟩
 . cases lo with
   | none=>simp [sliceBounds,HT.fG]
   | some i =>
     simp only [sliceBounds,HT.fG,Option.getD_none,show (1:Int) > 0 by decide,if_true]
     by_cases h:i<0
     . simp only [h,if_true] <;> omega
     . simp only [h,if_false] <;> omega
 . cases hi with
   | none=>simp [sliceBounds,HT.fG]
   | some i =>
     simp only [sliceBounds,HT.fG,Option.getD_none,show (1:Int) > 0 by decide,if_true]
     by_cases h:i<0
     . simp only [h,if_true] <;> omega
     . simp only [h,if_false] <;> omega
theorem yS (its:List Value) (lo hi:Option Int):slicePick its.toArray lo hi none=((its.drop (HT.fG its.length 0 lo)).take (HT.fG its.length its.length hi-HT.fG its.length 0 lo)).toArray:=by
 obtain ⟨h1,h2,h3⟩:=Ba lo hi its.toArray.size
 unfold slicePick
 rw [h1,h2,h3]
 simp only [sliceRange_one,pick_run,List.size_toArray] <;> rfl
def aeU (K:PySem.W.Frag):V->Option Int->Option Int->Hp->VK->Prop:=fun x lo hi H Q=>∃ a xs,x=.ref a/\dw K H a xs/\∀ p,H p=none->Q (.ref p) (upd H p (.lst (jP xs lo hi)))
theorem mY:X7 X (aeU X.K):=by
 intro pins s σ H x v vl vu lo hi sl Q I rx hs pl pu h
 obtain ⟨a,xs,rfl,hx,q⟩:=h
 cases rx
 obtain ⟨its,r,ht,hz⟩:=I.list hx
 have hlen:=r.length
 refine ⟨"list",_,slot_list_getitem.lookup,ht.isList.typeIs,?_⟩
 refine wpAny_getItem_list_slice ht.isList hs pl pu .none (by simp) ?_ (by rw [List.size_toArray] <;> omega)
 rw [yS,<- hlen]
 refine ⟨.ref s.heap.objs.size,_,I.laid (t':=s.toks) (o:=.lst (jP xs lo hi)) (fun b ob q=>Heap.get?_push_of_some _ q) (Nat.le_refl _) ?_,rfl,q _ (I.hok.fresh (Nat.le_refl _))⟩
 exact ⟨Nat.le_trans (oN xs lo hi) hz,_,0,(r.drop (HT.fG xs.length 0 lo)).take (HT.fG xs.length xs.length hi-HT.fG xs.length 0 lo),Heap.get?_push_size _ rfl⟩
theorem aY:gU X (.builtin "len") (fun xs H Q=>∃ p ys,xs=[.ref p]/\(dw X.K H p ys∨bU X.K H p ys)/\Q (.int ys.length) H):=by
 intro pins s σ H xs us Q I r h
 obtain ⟨p,ys,rfl,hq,q⟩:=h
 obtain ⟨u,rfl,rx⟩:=vals1 r
 cases rx
 have hn:=tO
 rcases hq with hq | hq
 . obtain ⟨its,r',pl,hz⟩:=I.list hq
   have hlen:=r'.length
   exact Calls.call_len_list pl.isList (by simp only [List.size_toArray] <;> omega) ⟨.int ys.length,H,I.tok _,⟨s.toks+1,by rw [List.size_toArray,hlen]⟩,q⟩
 . obtain ⟨its,r',pl,hz⟩:=I.tuple hq
   have hlen:=r'.length
   exact len_tuple pl (by simp only [List.size_toArray] <;> omega) ⟨.int ys.length,H,I.tok _,⟨s.toks+1,by rw [List.size_toArray,hlen]⟩,q⟩
theorem Bb:gU X (.builtin "len") (fun xs H Q=>∃ z,xs=[.str z]/\z.length<=sizeLine/\Q (.int z.length) H):=by
 intro pins s σ H xs us Q I r h
 obtain ⟨z,rfl,hz,q⟩:=h
 obtain ⟨u,rfl,t,rfl⟩:=vals1 r
 have hn:=tO
 exact len_str (by omega) ⟨.int z.length,H,I.tok _,⟨_,rfl⟩,q⟩
theorem cF:gU X (.type "tuple") (fun xs H Q=>∃ p ys,xs=[.ref p]/\((dw X.K H p ys/\∀ l,H l=none->Q (.ref l) (upd H l (.tup ys)))∨(bU X.K H p ys/\Q (.ref p) H))):=by
 intro pins s σ H xs us Q I r h
 obtain ⟨p,ys,rfl,h⟩:=h
 obtain ⟨u,rfl,rx⟩:=vals1 r
 cases rx
 rcases h with ⟨hq,q⟩ | ⟨hq,q⟩
 . obtain ⟨its,r',pl,hz⟩:=I.list hq
   have hlen:=r'.length
   refine call_tuple_list pl.isList (fun h' kp=>?_) (by simp only [List.size_toArray] <;> omega)
   have I1:Inv X pins σ H { s with heap:=h' }:=I.kept (t':=s.toks) kp
   have I2:Inv X pins σ (upd H h'.objs.size (.tup ys)) { s with heap:=h'.push { cls:=.type "tuple",data:=.seq its.toArray } } :=
     I1.laid (t':=s.toks) (fun b o e=>Heap.get?_push_of_some _ e) (Nat.le_refl _) (show dZ X.prog X.w _ _ _ (.tup ys) from ⟨hz,its,r',jY.new _ _⟩)
   exact ⟨.ref h'.objs.size,_,I2,rfl,q _ (I1.hok.fresh (Nat.le_refl _))⟩
 . obtain ⟨its,r',pl,hz⟩:=I.tuple hq
   exact call_tuple_same pl ⟨.ref p,H,I,rfl,q⟩
def tyV (K:PySem.W.Frag) (T:String) (x:V) (H:Hp):Prop:=match x with
 | .str _=>T = "str"
 | .int _=>T = "int"
 | .ref p=>(T = "list"/\∃ xs,dw K H p xs)∨(T = "tuple"/\∃ o,K.lookup p=some o/\o.cls=.type "tuple"/\o.dict=none) ∨
     (T = "dict"/\((∃ kvs,H p=some (.dK kvs))∨∃ kvs,H p=some (.dT kvs)))∨(T = "set"/\∃ S n,H p=some (.set S n))
 | _=>False
theorem Ye {pins:List (Addr × Obj)} {σ:St} {H:Hp} {s:Shared} {T:String} {x:V} {v:Value} (I:Inv X pins σ H s) (r:RelV x v) (ty:tyV X.K T x H) :
   s.TypeIs v T/\∀ a,v=.ref a->∃ ob,s.heap.get? a=some ob/\ob.dict=none:=by
 cases x with
 | str z =>
   obtain ⟨t,rfl⟩:=r
   cases (show T = "str" from ty)
   exact ⟨typeIs_str s z t,fun _ e=>nomatch e⟩
 | int i =>
   obtain ⟨t,rfl⟩:=r
   cases (show T = "int" from ty)
   exact ⟨typeIs_int s i t,fun _ e=>nomatch e⟩
 | ref p =>
   cases r
   rcases ty with ⟨rfl,xs,hq⟩ | ⟨rfl,o,hk,hc,hd⟩ | ⟨rfl,hk⟩ | ⟨rfl,S,n,hk⟩
   . obtain ⟨its,_,pl,_⟩:=I.list hq
     refine ⟨pl.isList.typeIs,fun a e=>?_⟩
     cases e
     obtain ⟨o,n,e,c,hd,_⟩:=pl
     exact ⟨o,e,hd⟩
   . refine ⟨⟨o,I.Dc p o hk,hc⟩,fun a e=>?_⟩
     cases e
     exact ⟨o,I.Dc _ o hk,hd⟩
   . have z:∃ o,s.heap.get? p=some o/\o.ExactDict:=by
       rcases hk with ⟨kvs,hk⟩ | ⟨kvs,hk⟩
       . obtain ⟨_,_,_,_,o,_,_,e,ex,_⟩:=I.hok p _ hk
         exact ⟨o,e,ex⟩
       . obtain ⟨_,_,_,_,o,_,_,e,ex,_⟩:=I.hok p _ hk
         exact ⟨o,e,ex⟩
     obtain ⟨o,e,ex⟩:=z
     refine ⟨⟨o,e,ex.1⟩,fun a e2=>?_⟩
     cases e2
     exact ⟨o,e,ex.2.1⟩
   . obtain ⟨o,_,_,_,e,ex,_⟩:=I.hok p _ hk
     refine ⟨⟨o,e,ex.1⟩,fun a e2=>?_⟩
     cases e2
     exact ⟨o,e,ex.2.1⟩
 | _=>exact False.elim ty
def tBM (K:PySem.W.Frag) (T:String) (r:V->List V->Hp->VK->Prop) (to:TE) (t:TA):TE:=fun σ H Q=>to σ H fun x H1=>tyV K T x H1/\t σ H1 fun xs H2=>r x xs H2 Q
variable {o e:Expr} {es:List Expr} {to:TE} {t:TA} {name:Str} {apos cpos:Pos} {T id:String} {r:V->List V->Hp->VK->Prop}
theorem gA (pa:PlainAttrs T) (slot:Slot T name id) (hty:typeOf (.builtin id)=pure (.type "method_descriptor")) (hm:MtR X id r) (ho:PE X o to) (ha:PA X (e :: es) t)
   (hbase:attributeBase o name X.env (eval o X.env)=eval o X.env:=by rfl)
   (hfew:((backTo cpos (starEach (e :: es) X.env)).all (fun x=>!x.1) && (backToKw cpos (keywordEach [] X.env)).all (fun x=>x.1.isSome)
     && decide ((e :: es).length+([]:List Keyword).length+(if ([]:List Keyword).isEmpty then 0 else 1)<30))=true:=by rfl)
   (hline:(apos.endLine == cpos.line)=true:=by rfl) (hs:starEach (e :: es) X.env=(false,eval e X.env) :: starEach es X.env:=by rfl) (hplain:(backTo cpos (starEach es X.env)).any (·.1)=false:=by rfl) :
   PE X (.Call (.Attribute o name apos) (e :: es) [] cpos) (tBM X.K T r to t):=by
 intro pins s σ H Q I h
 refine wpAny_Call_method_late hbase hfew hline rfl (d7 (ho pins s σ H _ I h) fun v s1 ⟨x,H1,I1,r1,ty,q1⟩=>?_)
 obtain ⟨h1,h2⟩:=Ye I1 r1 ty
 refine ⟨T,id,pa,slot,hty,h1,h2,?_⟩
 have hA:=ha cpos pins s1 σ H1 _ I1 q1
 rw [hs] at hA ⊢
 refine Calls.callWith_builtin (by show (false || (backTo cpos (starEach es X.env)).any (·.1))=false; rw [hplain] <;> rfl) (Calls.evalArgs_plain ?_)
 exact d7 hA fun us s2 ⟨vs,H2,I2,r2,q2⟩=>hm pins s2 σ H2 x vs v us Q I2 r1 r2 q2
end
end L2
namespace L2
open PySem PySem.Spec PyProof.Rows
def MtM (X:Cx) (id:String) (r:V->List V->Hp->VK->Prop):Prop :=
 ∀ (pins:List (Addr × Obj)) (s:Shared) (σ:St) (H:Hp) (x:V) (xs:List V) (v:Value) (us:List Value) (Q:VK),Inv X pins σ H s->RelV x v->Vals xs us->r x xs H Q ->
   wpAny (model X.prog X.w) X.A (call (.builtin id) (v :: us)) (EP X pins σ Q) X.xe s
theorem Vals.one:∀ {x:V} {us:List Value},Vals [x] us->∃ u,us=[u]/\RelV x u
 | _,_,.cons r .nil=>⟨_,rfl,r⟩
section
variable {X:Cx} {pins:List (Addr × Obj)} {σ:St} {H:Hp} {s:Shared} {l b:Addr} {xs ys zs:List V}
theorem Inv.abj {its its':List Value} {n:Nat} {f:Array Value->Array Value} {t':Nat} (I:Inv X pins σ H s) (hH:H l=some (.lst xs))
   (e:s.heap.get? l=some { cls:=.type "list",data:=.seq its.toArray n }) (hf:f its.toArray=its'.toArray) (hv:Vals ys its') (hz:ys.length<=sizeLine) :
   Inv X pins σ (upd H l (.lst ys)) { s with heap:=s.heap.update l (Obj.mapSeq f),toks:=t' }:=by
 have q:=PySem.IsL.update e f
 rw [hf] at q
 refine I.write (x:=l) (e:=l) (by rw [hH]; exact trivial) (.inl rfl) (fun b' u hb hu=>(Heap.get?_update_other s.heap (Obj.mapSeq f) (Ne.symm hb)).trans hu) ⟨_,q⟩ ?_
 exact ⟨hz,its',_,hv,q⟩
theorem Inv.Yg {its:List Value} {t':Nat} (I:Inv X pins σ H s) (hv:Vals ys its) (hz:ys.length<=sizeLine) :
   Inv X pins σ (upd H s.heap.objs.size (.lst ys)) { s with heap:=s.heap.push { cls:=.type "list",data:=.seq its.toArray },toks:=t' } :=
 I.laid (fun _ _ q=>Heap.get?_push_of_some _ q) (Nat.le_refl _) ⟨hz,its,0,hv,Heap.get?_push_size _ rfl⟩
theorem Inv.fresh (I:Inv X pins σ H s):H s.heap.objs.size=none:=I.hok.fresh (Nat.le_refl _)
theorem Inv.O2 (I:Inv X pins σ H s) (hH:H l=some (.lst xs)):xs.length<=sizeLine/\∃ (its:List Value) (n:Nat),Vals xs its/\xs.length=its.length/\s.heap.get? l=some { cls:=.type "list",data:=.seq its.toArray n }:=by
 obtain ⟨z,its,n,r,e⟩:=I.hok l _ hH
 exact ⟨z,its,n,r,r.length,e⟩
theorem O4 {n:Nat} (h:n<=sizeLine):Builtin.List.listTooLong n=false:=by
 unfold Builtin.List.listTooLong
 exact decide_eq_false (by omega)
end
section
variable {X:Cx}
def TV:V->List V->Hp->VK->Prop:=fun x vs H Q=>∃ l xs y,x=.ref l/\vs=[y]/\H l=some (.lst xs)/\xs.length<sizeLine/\Q .non (upd H l (.lst (xs++[y])))
theorem ji:MtM X "list.append" TV:=by
 intro pins s σ H x vs v us Q I rx rv h
 obtain ⟨l,xs,y,rfl,rfl,hH,hz,q⟩:=h
 cases rx
 obtain ⟨u,rfl,ru⟩:=rv.one
 obtain ⟨z,its,n,r,hl,e⟩:=I.O2 hH
 refine call_meets F.slot_list_append ⟨_,e,rfl⟩ F.entry_list_append (F.args_list_append_2 _ _) (PySem.list_append l its.toArray n u (by rw [List.size_toArray]; omega)) ⟨e,?_⟩
 refine ⟨.non,_,I.abj (its':=its++[u]) hH e (by simp) (r.append (.cons ru .nil)) ?_,rfl,q⟩
 rw [List.length_append,List.length_singleton]
 omega
def TX:V->List V->Hp->VK->Prop:=fun x vs H Q=>∃ l b xs zs,x=.ref l/\vs=[.ref b]/\H l=some (.lst xs)/\H b=some (.lst zs)/\xs.length+zs.length<=sizeLine/\Q .non (upd H l (.lst (xs++zs)))
theorem K4:MtM X "list.extend" TX:=by
 intro pins s σ H x vs v us Q I rx rv h
 obtain ⟨l,b,xs,zs,rfl,rfl,hH,hB,hz,q⟩:=h
 cases rx
 obtain ⟨u,rfl,ru⟩:=rv.one
 cases ru
 obtain ⟨z,its,n,r,hl,e⟩:=I.O2 hH
 obtain ⟨z2,its2,n2,r2,hl2,e2⟩:=I.O2 hB
 have hsz:its.toArray.size+its2.toArray.size<=sizeLine:=by rw [List.size_toArray,List.size_toArray]; omega
 have abk:¬ (!its.toArray.isEmpty && Builtin.List.listTooLong (its.toArray.size+its2.toArray.size))=true:=by
   rw [O4 hsz,Bool.and_false]
   exact Bool.false_ne_true
 refine call_meets F.slot_list_extend ⟨_,e,rfl⟩ F.entry_list_extend (F.args_list_extend_2 _ _)
   (AutoSeq1.list_extend_list_list_0 l its.toArray n b its2.toArray n2 abk (by rw [List.size_toArray]; omega) (by omega)) ⟨e,e2,?_⟩
 refine ⟨.non,_,I.abj (its':=its++its2) hH e (by simp) (r.append r2) ?_,rfl,q⟩
 rw [List.length_append]
 omega
def aeW:R2:=fun x y H Q=>∃ l b xs zs,x=.ref l/\y=.ref b/\H l=some (.lst xs)/\H b=some (.lst zs)/\xs.length+zs.length<=sizeLine/\∀ p,H p=none->Q (.ref p) (upd H p (.lst (xs++zs)))
theorem Gz:iD X (binaryOp .Add) aeW:=by
 intro pins s σ H x y v u Q I rx ry h
 obtain ⟨l,b,xs,zs,rfl,rfl,hH,hB,hz,q⟩:=h
 cases rx
 cases ry
 obtain ⟨z,its,n,r,hl,e⟩:=I.O2 hH
 obtain ⟨z2,its2,n2,r2,hl2,e2⟩:=I.O2 hB
 refine PySem.P.add_list e e2 ?_ (by rw [List.size_toArray,List.size_toArray]; omega)
 have ea:its.toArray++its2.toArray=(its++its2).toArray:=by simp
 rw [ea]
 exact ⟨.ref _,_,I.Yg (t':=s.toks) (r.append r2) (by rw [List.length_append]; omega),rfl,q _ I.fresh⟩
end
section
variable {prog:Program} {w:World} {A:Around} {E:Value->Shared->Prop} {s:Shared}
end
section
variable {X:Cx}
end
end L2
namespace L2
open PySem PySem.Spec PyProof.Rows
section
variable {κ:Type} [DecidableEq κ]
def eU (kvs:List (κ × V)) (k:κ):Option V:=(kvs.find? fun kv=>decide (kv.1=k)).map (·.2)
def putK (kvs:List (κ × V)) (k:κ) (v:V):List (κ × V) :=
 if (kvs.any fun kv=>decide (kv.1=k))=true then kvs.map (fun kv=>if kv.1=k then (kv.1,v) else kv) else kvs++[(k,v)]
theorem fJ {p:κ × V} {r:List (κ × V)} {k:κ} (e:p.1=k):eU (p :: r) k=some p.2:=by simp [eU,List.find?_cons,e]
theorem fK {p:κ × V} {r:List (κ × V)} {k:κ} (e:¬ p.1=k):eU (p :: r) k=eU r k:=by simp [eU,List.find?_cons,e]
theorem oO (k:κ):∀ kvs:List (κ × V),(kvs.any fun kv=>decide (kv.1=k))=(eU kvs k).isSome
 | []=>rfl
 | p :: r=>by
   rw [List.any_cons]
   by_cases e:p.1=k
   . simp only [fJ e,decide_eq_true e,Bool.true_or,Option.isSome_some]
   . rw [fK e,decide_eq_false e,Bool.false_or]; exact oO k r
theorem Dj (k j:κ) (y:V):∀ kvs:List (κ × V),eU (kvs.map fun kv=>if kv.1=k then (kv.1,y) else kv) j=(eU kvs j).map fun x=>if j=k then y else x
 | []=>rfl
 | p :: r=>by
   have ih:=Dj k j y r
   rw [List.map_cons]
   by_cases h:p.1=k
   . rw [if_pos h]
     by_cases e:p.1=j
     . rw [fJ (p:=(p.1,y)) e,fJ e,Option.map_some,if_pos (e.symm.trans h)]
     . rw [fK (p:=(p.1,y)) e,fK e,ih]
   . rw [if_neg h]
     by_cases e:p.1=j
     . rw [fJ (p:=p) e,fJ e,Option.map_some,if_neg (fun z=>h (e.trans z))]
     . rw [fK (p:=p) e,fK e,ih]
theorem zy (k j:κ) (y:V):∀ kvs:List (κ × V),eU kvs k=none->eU (kvs++[(k,y)]) j=if j=k then some y else eU kvs j
 | [],_=>by
   by_cases e:k=j
   . rw [if_pos e.symm]; exact fJ (p:=(k,y)) e
   . rw [if_neg (fun z=>e z.symm)]; exact fK (p:=(k,y)) e
 | p :: r,hn=>by
   rw [List.cons_append]
   have hk:¬ p.1=k:=fun z=>by rw [fJ z] at hn; cases hn
   rw [fK hk] at hn
   have ih:=zy k j y r hn
   by_cases e:p.1=j
   . rw [fJ e,fJ e,if_neg (fun z=>hk (e.trans z))]
   . rw [fK e,fK e,ih]
theorem rO (kvs:List (κ × V)) (k j:κ) (y:V):eU (putK kvs k y) j=if j=k then some y else eU kvs j:=by
 unfold putK
 by_cases a:(kvs.any fun kv=>decide (kv.1=k))=true
 . rw [if_pos a,Dj]
   rw [oO] at a
   by_cases e:j=k
   . obtain ⟨x,hx⟩:=Option.isSome_iff_exists.mp a
     rw [if_pos e,e,hx,Option.map_some,if_pos rfl]
   . rw [if_neg e]
     cases eU kvs j with
     | none=>rfl
     | some x=>rw [Option.map_some,if_neg e]
 . rw [if_neg a]
   refine zy k j y kvs ?_
   rw [oO] at a
   cases q:eU kvs k with
   | none=>rfl
   | some x=>rw [q] at a; exact (a rfl).elim
theorem gB (kvs:List (κ × V)) (k:κ) (v:V):(putK kvs k v).length<=kvs.length+1:=by
 unfold putK
 split
 . rw [List.length_map]; omega
 . rw [List.length_append,List.length_cons,List.length_nil]; omega
theorem vX.tQ {o:Option V} {u:Option Value} (r:vX o u):o.isSome=u.isSome:=by
 cases o with
 | none=>cases u with
   | none=>rfl
   | some _=>exact (show False from r).elim
 | some _=>cases u with
   | none=>exact (show False from r).elim
   | some _=>rfl
theorem KV.val {kvs:List (κ × V)} {vs:List (κ × Value)} (r:KV kvs vs) (k:κ):vX (eU kvs k) (valueAt vs k):=by
 unfold KV at r
 induction r with
 | nil=>exact True.intro
 | @cons p q ps qs h t ih =>
   obtain ⟨h1,h2⟩:=h
   by_cases e:p.1=k
   . have e':q.1=k:=h1.symm.trans e
     have b:valueAt (q :: qs) k=some q.2:=by simp [valueAt,List.find?_cons,e']
     rw [fJ e,b]; exact h2
   . have e':¬ q.1=k:=fun z=>e (h1.trans z)
     have b:valueAt (q :: qs) k=valueAt qs k:=by simp [valueAt,List.find?_cons,e']
     rw [fK e,b]; exact ih
theorem KV.any {kvs:List (κ × V)} {vs:List (κ × Value)} (r:KV kvs vs) (k:κ):(kvs.any fun kv=>decide (kv.1=k))=vs.any fun kv=>decide (kv.1=k):=by
 unfold KV at r
 induction r with
 | nil=>rfl
 | cons h t ih=>rw [List.any_cons,List.any_cons,ih,h.1]
theorem KV.repl {kvs:List (κ × V)} {vs:List (κ × Value)} (r:KV kvs vs) (k:κ) {y:V} {u:Value} (ry:RelV y u) :
   KV (kvs.map fun kv=>if kv.1=k then (kv.1,y) else kv) (vs.map fun kv=>if kv.1=k then (kv.1,u) else kv):=by
 unfold KV at r ⊢
 induction r with
 | nil=>exact .nil
 | @cons p q ps qs h t ih =>
   rw [List.map_cons,List.map_cons]
   refine .cons ?_ ih
   obtain ⟨h1,h2⟩:=h
   by_cases e:p.1=k
   . rw [if_pos e,if_pos (h1.symm.trans e)]; exact ⟨h1,ry⟩
   . rw [if_neg e,if_neg (fun z=>e (h1.trans z))]; exact ⟨h1,h2⟩
theorem KV.put {kvs:List (κ × V)} {vs:List (κ × Value)} (r:KV kvs vs) (k:κ) {y:V} {u:Value} (ry:RelV y u):KV (putK kvs k y) (stored vs k u):=by
 unfold putK stored
 rw [r.any k]
 by_cases e:(vs.any fun kv=>decide (kv.1=k))=true
 . rw [if_pos e,if_pos e]; exact r.repl k ry
 . rw [if_neg e,if_neg e]; exact Paired.snoc r ⟨rfl,ry⟩
theorem KV.keys {kvs:List (κ × V)} {vs:List (κ × Value)} (r:KV kvs vs):kvs.map (·.1)=vs.map (·.1):=by
 unfold KV at r
 induction r with
 | nil=>rfl
 | cons h t ih=>rw [List.map_cons,List.map_cons,ih,h.1]
theorem KV.length {kvs:List (κ × V)} {vs:List (κ × Value)} (r:KV kvs vs):kvs.length=vs.length:=Paired.length r
end
theorem zA {P:Program} {w:World} {k:Key} {u:Value} (r:RelV (kV k) u):(bT P w).is k u=true:=by
 cases k with
 | inl i=>cases i with
   | none=>cases (show u=Value.none from r); exact Am P w
   | some i=>obtain ⟨t,e⟩:=(show ∃ t,u=Value.int i t from r); subst e; exact CW P w i t
 | inr x=>obtain ⟨t,e⟩:=(show ∃ t,u=Value.str x t from r); subst e; exact jy P w x t
theorem zB {P:Program} {w:World}:∀ {ks:List Key} {us:List Value},Vals (ks.map kV) us->ItemsAre (bT P w) ks us
 | [],_,r=>by rw [List.map_nil] at r; cases r; exact .nil
 | k :: ks,_,r=>by
   rw [List.map_cons] at r
   cases r with
   | cons h t=>exact .cons (zA h) (zB t)
abbrev KT (H:Hp):List (List Key × V)->List (List Key × Addr × Value)->Prop:=Paired fun p q=>p.1=q.1/\H q.2.1=some (.tup (p.1.map kV))/\RelV p.2 q.2.2
theorem KT.val {H:Hp} {kvs:List (List Key × V)} {xs:List (List Key × Addr × Value)} (r:KT H kvs xs) (k:List Key):vX (eU kvs k) ((atKey xs k).map (·.2)):=by
 induction r with
 | nil=>exact True.intro
 | @cons p q ps qs h t ih =>
   obtain ⟨h1,_,h2⟩:=h
   by_cases e:p.1=k
   . have e':q.1=k:=h1.symm.trans e
     have b:atKey (q :: qs) k=some q.2:=by simp [atKey,List.find?_cons,e']
     rw [fJ e,b]; exact h2
   . have e':¬ q.1=k:=fun z=>e (h1.trans z)
     have b:atKey (q :: qs) k=atKey qs k:=by simp [atKey,List.find?_cons,e']
     rw [fK e,b]; exact ih
theorem KT.repl {H:Hp} {kvs:List (List Key × V)} {xs:List (List Key × Addr × Value)} (r:KT H kvs xs) (k:List Key) {y:V} {u:Value} (ry:RelV y u) :
   KT H (kvs.map fun kv=>if kv.1=k then (kv.1,y) else kv) (xs.map (putAt k u)):=by
 induction r with
 | nil=>exact .nil
 | @cons p q ps qs h t ih =>
   rw [List.map_cons,List.map_cons]
   refine .cons ?_ ih
   obtain ⟨h1,h2,h3⟩:=h
   unfold putAt
   by_cases e:p.1=k
   . rw [if_pos e,if_pos (h1.symm.trans e)]; exact ⟨h1,h2,ry⟩
   . rw [if_neg e,if_neg (fun z=>e (h1.trans z))]; exact ⟨h1,h2,h3⟩
theorem KT.put {H:Hp} {kvs:List (List Key × V)} {xs:List (List Key × Addr × Value)} (r:KT H kvs xs) (k:List Key) {b:Addr} {y:V} {u:Value} (hb:H b=some (.tup (k.map kV))) (ry:RelV y u) :
   KT H (putK kvs k y) (storedH xs k b u):=by
 have e:(kvs.any fun kv=>decide (kv.1=k))=(atKey xs k).isSome:=by
   rw [oO,(r.val k).tQ,Option.isSome_map]
 unfold putK storedH
 rw [e]
 by_cases q:(atKey xs k).isSome=true
 . rw [if_pos q,if_pos q]; exact r.repl k ry
 . rw [if_neg q,if_neg q]; exact Paired.snoc r ⟨rfl,hb,ry⟩
theorem KT.keeps {H H':Hp} {kvs:List (List Key × V)} {xs:List (List Key × Addr × Value)} (r:KT H kvs xs) (ht:∀ b ys,H b=some (.tup ys)->H' b=some (.tup ys)):KT H' kvs xs :=
 Paired.Xm r fun _ _ z=>⟨z.1,ht _ _ z.2.1,z.2.2⟩
section
variable {P:Program} {w:World} {H:Hp} {h:Heap} {a:Addr}
theorem Wr {u:HO} (ok:rJ P w H h) (e:Rd H a u):dZ P w H h a u:=e.ok ok
theorem Dk {kvs:List (Key × V)} (ok:rJ P w H h) (e:Rd H a (.dK kvs)):kvs.length<=sizeLine/\(a == sysModules)=false/\∃ vs,KV kvs vs/\h.DictOf (bT P w) a vs :=
 show dZ P w H h a (.dK kvs) from Wr ok e
theorem Dl {kvs:List (Key × V)} (ok:rJ P w H h) (e:H a=some (.dK kvs)):kvs.length<=sizeLine/\(a == sysModules)=false/\∃ vs,KV kvs vs/\h.DictOf (bT P w) a vs:=Dk ok (.inl e)
theorem Bc {ks:List Key} (ok:rJ P w H h) (e:H a=some (.tup (ks.map kV))):(tupleKind (bT P w)).is h ks a:=by
 obtain ⟨_,its,r,o,h1,h2,⟨n,h3⟩,_⟩:=(show dZ P w H h a (.tup (ks.map kV)) from ok a _ e)
 exact ⟨o,its.toArray,n,h1,h2,h3,by simpa using zB r⟩
theorem Jv {kvs:List (List Key × V)} (ok:rJ P w H h) (e:Rd H a (.dT kvs)):kvs.length<=sizeLine/\(a == sysModules)=false /\
   ∃ xs,KT H kvs xs/\h.DictOfH (tupleKind (bT P w)) a xs:=by
 obtain ⟨z,y,xs,r,o,es,ep,h1,h2,h3,h4,h5⟩:=(show dZ P w H h a (.dT kvs) from Wr ok e)
 refine ⟨z,y,xs,r,o,es,ep,h1,h2,h3,h4,fun x hx=>?_,h5⟩
 have all:∀ {l:List (List Key × V)} {m:List (List Key × Addr × Value)},KT H l m->∀ x∈m,(tupleKind (bT P w)).is h x.1 x.2.1:=by
   intro l m q
   induction q with
   | nil=>intro x hx; exact nomatch hx
   | @cons p q ps qs hq t ih =>
     intro x hx
     rcases List.mem_cons.mp hx with e | hx
     . subst e
       exact Bc ok (by rw [<- hq.1]; exact hq.2.1)
     . exact ih x hx
 exact all r x hx
theorem abl {kvs:List (List Key × V)} (ok:rJ P w H h) (e:H a=some (.dT kvs)):kvs.length<=sizeLine/\(a == sysModules)=false /\
   ∃ xs,KT H kvs xs/\h.DictOfH (tupleKind (bT P w)) a xs:=Jv ok (.inl e)
end
def oH (H:Hp) (a:Addr) (y:V) (r:Option V):Prop :=
 (∃ kvs k,Rd H a (.dK kvs)/\y=kV k/\r=eU kvs k)∨∃ kvs k b,Rd H a (.dT kvs)/\y=.ref b/\H b=some (.tup (k.map kV))/\r=eU kvs k
def Bd (H:Hp) (a:Addr) (y v:V) (H':Hp):Prop :=
 (∃ kvs k,H a=some (.dK kvs)/\y=kV k/\kvs.length<sizeLine/\H'=upd H a (.dK (putK kvs k v))) ∨
 ∃ kvs k b,H a=some (.dT kvs)/\y=.ref b/\H b=some (.tup (k.map kV))/\kvs.length<sizeLine/\H'=upd H a (.dT (putK kvs k v))
theorem oH.k {H:Hp} {a:Addr} {kvs:List (Key × V)} {k:Key} (e:H a=some (.dK kvs)):oH H a (kV k) (eU kvs k):=.inl ⟨kvs,k,.inl e,rfl,rfl⟩
theorem oH.t {H:Hp} {a b:Addr} {kvs:List (List Key × V)} {k:List Key} (e:H a=some (.dT kvs)) (eb:H b=some (.tup (k.map kV))):oH H a (.ref b) (eU kvs k):=.inr ⟨kvs,k,b,.inl e,rfl,eb,rfl⟩
theorem Bd.k {H:Hp} {a:Addr} {kvs:List (Key × V)} {k:Key} {v:V} (e:H a=some (.dK kvs)) (hl:kvs.length<sizeLine):Bd H a (kV k) v (upd H a (.dK (putK kvs k v))):=.inl ⟨kvs,k,e,rfl,hl,rfl⟩
theorem Bd.t {H:Hp} {a b:Addr} {kvs:List (List Key × V)} {k:List Key} {v:V} (e:H a=some (.dT kvs)) (eb:H b=some (.tup (k.map kV))) (hl:kvs.length<sizeLine) :
   Bd H a (.ref b) v (upd H a (.dT (putK kvs k v))):=.inr ⟨kvs,k,b,e,rfl,eb,hl,rfl⟩
section
variable {X:Cx} {pins:List (Addr × Obj)} {σ:St} {H:Hp} {s:Shared} {a:Addr} {y v:V} {u r:Value} {o:Option V} {A:Around} {E:Value->Shared->Prop}
theorem Inv.big (I:Inv X pins σ H s):sysModules<s.heap.objs.size:=by
 have h:mainGlobals<s.heap.objs.size:=(I.mod.glob.keeps I.bk).lt
 exact Nat.lt_trans (by decide) h
theorem K5 {Q:Value->Shared->Prop} (hu:A.units+1<cLine) (I:Inv X pins σ H s) (g:oH H a y (some v)) (ry:RelV y u) (h:∀ w' s',Inv X pins σ H s'->RelV v w'->Q w' s') :
   wpAny (model X.prog X.w) A (getItem (.ref a) u) Q E s:=by
 rcases g with ⟨kvs,k,e,ey,l⟩ | ⟨kvs,k,b,e,ey,eb,l⟩
 . subst ey
   obtain ⟨z,hd,vs,rel,dd⟩:=Dk I.hok e
   obtain ⟨w',hw,KH⟩:=vX.some_of (v:=v) (o:=valueAt vs k) (by rw [l]; exact rel.val k)
   exact wpAny_getItem_of (zA ry) dd.mapOf hw (h w' _ (I.tok _) KH)
 . subst ey
   cases (show u=Value.ref b from ry)
   obtain ⟨z,hd,xs,rel,dd⟩:=Jv I.hok e
   obtain ⟨w',hw,KH⟩:=vX.some_of (v:=v) (o:=(atKey xs k).map (·.2)) (by rw [l]; exact rel.val k)
   obtain ⟨p,hp,hp2⟩:=Option.map_eq_some_iff.mp hw
   refine wpAny_getItem_heap (tupleKind_room_in1 hu) (Bc I.hok eb) dd hp ?_
   rw [hp2]
   exact h w' _ (I.tok _) KH
theorem TY {Q:Value->Shared->Prop} (hu:A.units+1<cLine) (I:Inv X pins σ H s) (g:oH H a y o) (ry:RelV y u) (h:∀ s',Inv X pins σ H s'->Q (.bool (!o.isSome)) s') :
   wpAny (model X.prog X.w) A (compareOp .NotIn u (.ref a)) Q E s:=by
 rcases g with ⟨kvs,k,e,ey,l⟩ | ⟨kvs,k,b,e,ey,eb,l⟩
 . subst ey
   obtain ⟨z,hd,vs,rel,dd⟩:=Dk I.hok e
   refine wpAny_notIn_of (zA ry) hd dd.mapOf ?_
   rw [<- (rel.val k).tQ,<- l]
   exact h _ (I.tok _)
 . subst ey
   cases (show u=Value.ref b from ry)
   obtain ⟨z,hd,xs,rel,dd⟩:=Jv I.hok e
   refine wpAny_notIn_heap (tupleKind_room_in1 hu) (Bc I.hok eb) hd dd ?_
   have q:=(rel.val k).tQ
   rw [Option.isSome_map] at q
   rw [<- q,<- l]
   exact h _ (I.tok _)
theorem vH {h':Heap} {t':Nat} {ob:HO} (I:Inv X pins σ H s) (mu:Mut (H a)) (hs:Heap.SameBut a s.heap h') (he:∃ q,h'.get? a=some q) (new:dZ X.prog X.w (upd H a ob) h' a ob) :
   Inv X pins σ (upd H a ob) { s with heap:=h',toks:=t' } :=
 I.write (x:=a) (e:=a) mu (.inl rfl) (fun b q hb z=>(hs.2 b hb).trans z) he new
theorem GC {P:Program} {w:World} {H':Hp} {h':Heap} {kvs:List (Key × V)} {vs:List (Key × Value)} (z:kvs.length<=sizeLine) (hd:(a == sysModules)=false) (rel:KV kvs vs) (dd:h'.DictOf (bT P w) a vs) :
   dZ P w H' h' a (.dK kvs):=⟨z,hd,vs,rel,dd⟩
theorem K6 {H':Hp} {Q:Unit->Shared->Prop} (hu:A.units+1<cLine) (I:Inv X pins σ H s) (g:Bd H a y v H') (ry:RelV y u) (rv:RelV v r) (h:∀ s',Inv X pins σ H' s'->Q () s') :
   wpAny (model X.prog X.w) A (setItem (.ref a) u r) Q E s:=by
 rcases g with ⟨kvs,k,e,ey,l,eH⟩ | ⟨kvs,k,b,e,ey,eb,l,eH⟩
 . subst ey eH
   obtain ⟨z,hd,vs,rel,dd⟩:=Dl I.hok e
   have hz:vs.length<=sizeLine:=by rw [<- rel.length]; exact z
   have hl:(putK kvs k v).length<=sizeLine:=by have:=gB kvs k v; omega
   refine wpAny_setItem_pairs (hsz:=hz) (zA ry) dd fun h' Yh hs=>h _ ?_
   have he:∃ q,h'.get? a=some q:=let ⟨q,_,_,hq,_⟩:=Yh; ⟨q,hq⟩
   exact vH I (by rw [e]; exact True.intro) hs he (GC hl hd (rel.put k rv) Yh)
 . subst ey eH
   cases (show u=Value.ref b from ry)
   obtain ⟨z,hd,xs,rel,dd⟩:=abl I.hok e
   have hz:xs.length<=sizeLine:=by rw [<- Paired.length rel]; exact z
   have hl:(putK kvs k v).length<=sizeLine:=by have:=gB kvs k v; omega
   refine wpAny_setItem_heap (hsz:=hz) (tupleKind_room_in1 hu) (Bc I.hok eb) dd fun h' Yh hs=>h _ ?_
   obtain ⟨q,es,ep,hq,h2,h3,h4,_,h5⟩:=Yh
   refine vH I (by rw [e]; exact True.intro) hs ⟨q,hq⟩ ⟨hl,hd,_,(rel.put k eb rv).keeps fun c ys ec=>?_,q,es,ep,hq,h2,h3,h4,h5⟩
   rw [aL (aaO ec e (fun z=>nomatch z))]
   exact ec
end
section
variable {X:Cx} {pins:List (Addr × Obj)} {σ:St} {H:Hp} {s:Shared} {a:Addr} {kvs:List (Key × V)} {k:Key} {u:Value} {A:Around} {E:Value->Shared->Prop}
theorem abm {Q:Value->Shared->Prop} (I:Inv X pins σ H s) (e:Rd H a (.dK kvs)) (h:∀ t s',Inv X pins σ H s'->Q (.int kvs.length t) s'):wpAny (model X.prog X.w) A (call (.builtin "len") [.ref a]) Q E s:=by
 obtain ⟨z,hd,vs,rel,dd⟩:=Dk I.hok e
 refine call_len_dict hd dd (by rw [<- rel.length]; rw [sizeLine_eq] at z; omega) ?_
 rw [<- rel.length]
 exact h _ _ (I.tok _)
end
def abn (i:Expr):Prop:=∀ ov iv,subscripted i false ov iv=operate [ov,iv] (getItem ov iv)
theorem T3 {prog:Program} {w:World} {A:Around} {E:Value->Shared->Prop} {s:Shared} {env:Env} {value slice:Expr} {pos:Pos} {T id:String} {Q:Value->Shared->Prop}
   (hl:typeLookup (.type T) "__getitem__" = pure (some (.builtin id))) (hs:abn slice)
   (h:wpAny (model prog w) A (eval value env) (fun o s₁=>wpAny (model prog w) A (eval slice env) (fun i s₂=>s₂.TypeIs o T/\wpAny (model prog w) A (getItem o i) Q E s₂) E s₁) E s) :
   wpAny (model prog w) A (eval (.Subscript value slice pos) env) Q E s:=by
 refine Subscript_ (wpAny_mono h (fun o s₁ h₁=>wpAny_mono h₁ (fun i s₂ h₂=>?_) fun _ _ x=>x) fun _ _ x=>x)
 obtain ⟨hT,h₂⟩:=h₂
 unfold subscriptTail
 refine wpAny_bind ?_
 rw [getitemInPython_of_ne hT.not_modules]
 refine wpAny_bind (wpAny_specialOf hT hl ?_)
 have fin:wpAny (model prog w) A (subscripted slice false o i) (fun r s₃=>wpAny (model prog w) A (letTemporaryGo value o r >>= fun _=>pure r) Q E s₃) E s₂:=by
   rw [hs o i]
   exact wpAny_operating (wpAny_mono h₂ (fun r s₃ h₃=>wpAny_bind (wpAny_letTemporaryGo (wpAny_pure h₃))) fun _ _ x=>x)
 first
   | exact wpAny_pure (wpAny_bind fin)
   | exact wpAny_bind (wpAny_pure (wpAny_bind fin))
   | exact wpAny_bind fin
theorem Dm {X:Cx} {pins:List (Addr × Obj)} {σ:St} {H:Hp} {s:Shared} {a:Addr} {y:V} {o:Option V} (I:Inv X pins σ H s) (g:oH H a y o):s.TypeIs (.ref a) "dict":=by
 rcases g with ⟨kvs,k,e,_,_⟩ | ⟨kvs,k,b,e,_,_,_⟩
 . obtain ⟨_,_,vs,_,dd⟩:=Dk I.hok e
   exact dd.typeIs
 . obtain ⟨_,_,xs,_,dd⟩:=Jv I.hok e
   exact dd.typeIs
def abo (td ty:TE):TE:=fun σ H Q=>td σ H fun x H1=>ty σ H1 fun y H2=>∃ a v,x=.ref a/\oH H2 a y (some v)/\Q v H2
def T4 (ty td:TE):TE:=fun σ H Q=>ty σ H fun y H1=>td σ H1 fun x H2=>∃ a o,x=.ref a/\oH H2 a y o/\Q (.bl (!o.isSome)) H2
def abp (td ty tv:TE):TS:=fun D σ H=>tv σ H fun v H1=>td σ H1 fun x H2=>ty σ H2 fun y H3=>∃ a H4,x=.ref a/\Bd H3 a y v H4/\D.nx σ H4
section
variable {X:Cx} {o i e value:Expr} {pos pos' tpos:Pos} {td ty tv:TE}
theorem mZ (hu:X.A.units+1<cLine) (ho:PE X o td) (hi:PE X i ty) (hs:abn i):PE X (.Subscript o i pos) (abo td ty):=by
 intro pins s σ H Q I h
 refine T3 PySem.F.slot_dict_getitem.lookup hs (d7 (ho pins s σ H _ I h) fun u s1 ⟨x,H1,I1,rx,q1⟩=>d7 (hi pins s1 σ H1 _ I1 q1) fun iv s2 ⟨y,H2,I2,ry,a,v,ex,g,q2⟩=>?_)
 subst ex
 obtain rfl:u=Value.ref a:=rx
 exact ⟨Dm I2 g,K5 hu I2 g ry fun w' s3 I3 KH=>⟨v,H2,I3,KH,q2⟩⟩
theorem zE (hu:X.A.units+1<cLine) (hi:PE X i ty) (ho:PE X o td):PC X .NotIn i o (T4 ty td):=by
 intro pins s σ H Q I h
 refine d7 (hi pins s σ H _ I h) fun iv s1 ⟨y,H1,I1,ry,q1⟩=>d7 (ho pins s1 σ H1 _ I1 q1) fun u s2 ⟨x,H2,I2,rx,a,ov,ex,g,q2⟩=>?_
 subst ex
 obtain rfl:u=Value.ref a:=rx
 exact TY hu I2 g ry fun s3 I3=>⟨.bl (!ov.isSome),H2,I3,rfl,q2⟩
theorem Bf (hu:X.A.units+1<cLine) (ho:PE X o td) (hi:PE X i ty) (hv:PE X value tv) (hs:swapsWith value (some (.Subscript o i pos')) pos.line X.env=pure false) :
   PS X (.Assign [.Subscript o i pos'] value pos) (abp td ty tv):=by
 intro pins s σ H D I h
 refine wpAny_Assign_Subscript (d7 (hv pins s σ H _ I h) fun r s1 ⟨v,H1,I1,rv,q1⟩=>d7 (ho pins s1 σ H1 _ I1 q1) fun u s2 ⟨x,H2,I2,rx,q2⟩=>d7 (hi pins s2 σ H2 _ I2 q2) fun iv s3 ⟨y,H3,I3,ry,a,H4,ex,g,q3⟩=>?_) hs
 subst ex
 obtain rfl:u=Value.ref a:=rx
 exact K6 hu I3 g ry rv fun s4 I4=>⟨σ,H4,I4,q3⟩
end
theorem Dn {P:Program} {w:World} {H:Hp} (h:Heap) (hb:sysModules<h.objs.size):dZ P w H (h.push { cls:=.type "dict",data:=.dict #[] }) h.objs.size (.dK []) :=
 ⟨Nat.zero_le _,beq_eq_false_iff_ne.mpr (Ne.symm (Nat.ne_of_lt hb)),[],.nil,Heap.DictOf.new h⟩
theorem O5 {P:Program} {w:World} {H:Hp} (h:Heap) (hb:sysModules<h.objs.size):dZ P w H (h.push { cls:=.type "dict",data:=.dict #[] }) h.objs.size (.dT []) :=
 ⟨Nat.zero_le _,beq_eq_false_iff_ne.mpr (Ne.symm (Nat.ne_of_lt hb)),[],.nil,_,#[],0,Heap.get?_push_size _ rfl,⟨rfl,rfl,rfl⟩,rfl,rfl,List.nodup_nil⟩
def Yi:TE:=fun _ H Q=>∀ p,H p=none->Q (.ref p) (upd H p (.dK []))
def Yj:TE:=fun _ H Q=>∀ p,H p=none->Q (.ref p) (upd H p (.dT []))
section
variable {X:Cx} {pos:Pos}
theorem wg:PE X (.Dict [] [] pos) Yi:=fun pins s σ H Q I h =>
 wpAny_Dict_empty ⟨.ref s.heap.objs.size,_,I.laid (a:=s.heap.objs.size) (o:=.dK []) (t':=s.toks) (fun _ _ q=>Heap.get?_push_of_some _ q) (Nat.le_refl _) (Dn s.heap I.big),rfl,h _ (I.hok.fresh (Nat.le_refl _))⟩
theorem O6:PE X (.Dict [] [] pos) Yj:=fun pins s σ H Q I h =>
 wpAny_Dict_empty ⟨.ref s.heap.objs.size,_,I.laid (a:=s.heap.objs.size) (o:=.dT []) (t':=s.toks) (fun _ _ q=>Heap.get?_push_of_some _ q) (Nat.le_refl _) (O5 s.heap I.big),rfl,h _ (I.hok.fresh (Nat.le_refl _))⟩
end
def qF (kvs more:List (Key × V)):List (Key × V):=more.foldl (fun acc kv=>putK acc kv.1 kv.2) kvs
theorem KV.merge:∀ {more:List (Key × V)} {rs:List (Key × Value)} {kvs:List (Key × V)} {vs:List (Key × Value)},KV more rs->KV kvs vs->KV (qF kvs more) (merged vs rs):=by
 intro more rs kvs vs r
 unfold KV at r
 induction r generalizing kvs vs with
 | nil=>intro q; exact q
 | @cons p q ps qs h t ih =>
   intro r0
   have e:KV (putK kvs p.1 p.2) (stored vs q.1 q.2):=by
     have:=r0.put p.1 h.2
     rw [<- h.1]; exact this
   exact ih e
section
variable {X:Cx} {pins:List (Addr × Obj)} {σ:St} {H:Hp} {s:Shared} {a:Addr} {y d:V} {u r:Value} {o:Option V} {A:Around} {E:Value->Shared->Prop}
end
section
variable {X:Cx} {o e f:Expr} {apos cpos:Pos} {td ty tx:TE}
end
section
variable {X:Cx} {pins:List (Addr × Obj)} {σ:St} {H:Hp} {s:Shared} {a:Addr} {kvs:List (Key × V)} {A:Around} {E:Value->Shared->Prop}
end
section
variable {X:Cx} {pins:List (Addr × Obj)} {σ:St} {H:Hp} {s:Shared} {a:Addr} {y:V} {u:Value} {A:Around} {E:Value->Shared->Prop}
end
end L2
namespace Att
open PySem PySem.W PySem.Calls PyProof.Rows
theorem vC {P:Params} {h:Heap}:∀ (ns:List Int) (vs:List Value),WellAll P h vs (ns.map WData.int)->IntsAre vs ns:=by
 intro ns
 induction ns with
 | nil =>
   intro vs w
   rw [List.map_nil] at w
   cases w
   exact .nil
 | cons n ns ih =>
   intro vs w
   rw [List.map_cons] at w
   cases w with
   | cons a b =>
     cases a
     exact .cons _ _ (ih _ b)
theorem K7 {l:OpenLaw} {n:Nat} (hn:l.most=some n) {P:Params} {h:Heap} {args:List WData} {vals:List Value}
   (hpre:l.row.toRowW.claim.pre args=true) (hwl:WellAll P h vals args) :
   ∃ a vs ns,vals=[Value.ref a]/\args=[WData.list (ns.map WData.int)]/\h.get? a=some { cls:=.type "list",data:=.seq vs.toArray }/\IntsAre vs ns/\ns.length<=n:=by
 have hsh:WShape.hasAll [] args [.list .int]=true:=(pre_splitW hpre).1
 have hc:l.pre.holds [] { args:=args }=true:=(pre_splitW hpre).2
 obtain ⟨d,r,rfl,h1,h2⟩:=hasAllW_cons hsh
 obtain rfl:=hasAllW_nil h2
 obtain ⟨xs,rfl,h3⟩:=hasW_list h1
 obtain ⟨ns,rfl⟩:=items_int h3
 have hlen:ns.length<=n:=by
   unfold OpenLaw.pre at hc
   have h4:(WTm.not (.lt (.lit (.int (n:Int))) (.len (.arg 0)))).holds [] { args:=[.list (ns.map .int)] }=true:=by
     have h4:=(holds_andW hc).1
     rw [hn] at h4
     exact h4
   have h5:=condW_of h4 (w_not (w_lt w_lit (w_len_list (w_arg rfl))))
   rw [List.length_map] at h5
   refine Nat.le_of_not_lt fun q=>?_
   have q':(n:Int)<((ns.length:Nat):Int):=by omega
   first
     | (rw [decide_eq_true q'] at h5; exact absurd h5 (by decide))
     | (simp at h5; omega)
 cases hwl with
 | cons w1 w2 =>
   cases w2
   cases w1 with
   | list ho hall=>exact ⟨_,_,ns,rfl,rfl,ho,vC ns _ hall,hlen⟩
theorem K8 (l:OpenLaw) (args:List WData):l.row.toRowW.claim.post args (.bool true) args=true :=
 postW_of (r:=l.row.toRowW) (X:=(true == true))
   (show WShape.has [] (.bool true) .bool=true by first | rfl | decide | simp [WShape.has,WShape.arms,WShape.armsAll])
   (show (WTm.eq .res (.lit (.bool true))).value [] { args:=args,res:=some (.bool true),after:=args }=some (.bool (true == true)) from w_eq_bool (w_res rfl) w_lit) rfl
section
variable {prog:Program} {w:World} {A:Around} {E:Value->Shared->Prop} {s:Shared} {K:Frag}
end
end Att
namespace L2
open PySem PySem.Spec PyProof.Rows
theorem zF:∀ {vs:List Value} {ns:List Int},IntsAre vs ns->Vals (ns.map V.int) vs
 | _,_,.nil=>.nil
 | _,_,.cons n t h=>.cons ⟨t,rfl⟩ (zF h)
def Only (H:Hp):Prop:=∀ b,H b=none∨∃ o xs,H b=some (.Ji o (.lst xs))
theorem O7 {P:Program} {w:World} {K:PySem.W.Frag} {mg mb:Str->Option Value} {CX:KZ} {k:Nat} {fa a:Addr} {fd:FuncData} {x:Str} {sp:Sp} {s₁:Shared} {vs:List Value} {ns:List Int}
   (KX:K.In s₁.heap) (hns:s₁.heap.Ns mainGlobals mg) (hb:s₁.heap.Ns builtinsNs mb) (hbb:∀ x:Str,x≠"__name__"->mb x=bootBuiltins x) (hlim:s₁.heap.NoLimit) (hg:s₁.gens=#[])
   (ha:s₁.heap.get? a=some { cls:=.type "list",data:=.seq vs.toArray }) (hi:IntsAre vs ns) (hl:ns.length<=sizeLine) (hr:lG k callerA)
   (F:∀ base:Heap,K.In base->base.Ns mainGlobals mg->aQ P w K mg base CX k fa fd [x] sp) (hbind:∀ (s:Shared) (u:Value),BindsTo s fd ⟨[u],[]⟩ [(x,u)])
   (hsp:∀ H:Hp,Only H->dw K H a (ns.map V.int)->sp [.ref a] H (fun v _=>v=.bl true) fun _ _ _=>False)
   (hCX:∀ H e s',CX [] H s₁ (fun _ _ _=>False) e s'->False) :
   codeAny (model P w) callerA (.call (.ref fa) ⟨[.ref a],[]⟩) (fun r s'=>r=.ok (.ret (.bool true))/\OldK s₁.heap s'.heap/\s'.os=s₁.os/\AllBare s'.gens) s₁:=by
 have rv:=zF hi
 have lenV:=hi.length
 -- from an abstract heap in which nothing but the script may be tracked
 have core:∀ H:Hp,Only H->dw K H a (ns.map V.int)->rJ P w H s₁.heap->(∀ b,H b≠none->b=a)->(H a≠none->K.lookup a=none) ->
     codeAny (model P w) callerA (.call (.ref fa) ⟨[.ref a],[]⟩) (fun r s'=>r=.ok (.ret (.bool true))/\OldK s₁.heap s'.heap/\s'.os=s₁.os/\AllBare s'.gens) s₁:=by
   intro H hO hS hok hA hK
   have Jw:∀ {b:Addr} {o:Obj},s₁.heap.get? b=some o->H b=none->(Aq s₁.heap H).get? b=some o:=fun e n=>Ol e n
   have noA:∀ {b:Addr} {o:Obj} {es:Array DictEntry} {ep:Nat},s₁.heap.get? b=some o->o.data=.dict es ep->H b=none:=fun {b o es ep} e d=>by
     cases q:H b with
     | none=>rfl
     | some u =>
       have e':b=a:=hA b (by rw [q]; simp)
       subst e'
       rw [ha] at e; cases e
       have d':Data.seq vs.toArray _=Data.dict es ep:=d
       cases d'
   have nsK:∀ {b:Addr} {m:Str->Option Value},s₁.heap.Ns b m->(Aq s₁.heap H).Ns b m:=fun {b m} ⟨o,es,ep,e,d,r⟩=>⟨o,es,ep,Jw e (noA e d),d,r⟩
   have hKb:K.In (Aq s₁.heap H):=fun b o e=>Jw (KX b o e) (by
     cases q:H b with
     | none=>rfl
     | some u =>
       have e':b=a:=hA b (by rw [q]; simp)
       subst e'
       rw [hK (by rw [q]; simp)] at e; cases e)
   have hM:Mod K mg (Aq s₁.heap H):=⟨hKb,nsK hns,⟨mb,nsK hb,hbb⟩,let ⟨mc,h1,h2⟩:=hlim; ⟨mc,nsK h1,h2⟩⟩
   have e0:Tv P w K mg (Aq s₁.heap H) callerA [] s₁ H:=⟨rfl,hM,fun b o e=>Tp e,Nat.le_of_eq (Kz _ _),trivial,fun b hb=>absurd (show b∈([]:List Addr) from hb) (by simp),hok,.of_eq hg⟩
   refine codeAny_mono ((F _ hKb (nsK hns)).run callerA [] s₁ H ⟨[.ref a],[]⟩ [.ref a] [.ref a] _ _ hr e0 (hbind s₁ (.ref a)) (.cons rfl .nil) (hsp H hO hS)) fun r s' h=>?_
   cases r with
   | error e=>exact (hCX H e s' h).elim
   | ok fl =>
     cases fl with
     | next=>exact False.elim h
     | brk=>exact False.elim h
     | cont=>exact False.elim h
     | ret u =>
       obtain ⟨v,H',os,bare,un,hok',r',q⟩:=h
       have q':v=.bl true:=q
       subst q'
       obtain rfl:u=Value.bool true:=r'
       refine ⟨rfl,OldK.of_keep fun b o e=>?_,os,bare⟩
       cases q:H b with
       | none=>exact un.keep b o e q (by intro z; exact absurd (show b∈([]:List Addr) from z) (by simp)) (by simp)
       | some u =>
         rcases hO b with z | ⟨ob,xs,z⟩
         . rw [q] at z; cases z
         . have z2:=un.Ao b ob _ z
           obtain ⟨e1,_⟩:=hok b _ z
           obtain ⟨e2,_⟩:=hok' b _ z2
           rw [e] at e1; cases e1
           exact e2
 cases hk:K.lookup a with
 | some o =>
   -- the script is one of the module's own objects
   have e:=KX a o hk
   rw [ha] at e
   cases e
   refine core (fun _=>none) (fun _=>.inl rfl) (.inr ⟨_,vs.toArray,_,hk,rfl,rfl,rfl,by rw [List.size_toArray,lenV]; exact hl,by simpa using rv⟩) (fun b u z=>by have z':(none:Option HO)=some u:=z; cases z') (fun b z=>absurd rfl z) fun z=>absurd rfl z
 | none =>
   refine core (fun b=>if b=a then some (.Ji { cls:=.type "list",data:=.seq vs.toArray } (.lst (ns.map V.int))) else none) (fun b=>?_) (.inl (.inr ⟨{ cls:=.type "list",data:=.seq vs.toArray },if_pos rfl⟩)) (fun b u z=>?_) (fun b z=>?_) fun _=>hk
   . by_cases hb:b=a
     . exact .inr ⟨_,_,if_pos hb⟩
     . exact .inl (if_neg hb)
   . by_cases hb:b=a
     . have z':=(if_pos hb).symm.trans z
       cases z'
       subst hb
       exact ⟨ha,by rw [List.length_map]; exact hl,vs,_,rv,ha⟩
     . have z':=(if_neg hb).symm.trans z
       cases z'
   . by_cases hb:b=a
     . exact hb
     . exact absurd (if_neg hb) z
end L2
namespace L2
open PySem PySem.Spec PyProof.Rows
end L2
namespace L2
open PySem PySem.Spec PyProof.Rows
def bh (s:Stmt):Arguments:=match s with
 | .FunctionDef _ a _ _ _ _ _ _ _ _=>a
 | _=>{ posonlyargs:=[],args:=[],vararg:=none,kwonlyargs:=[],kw_defaults:=[],kwarg:=none,defaults:=[] }
def aZ (s:Stmt):List Stmt:=match s with
 | .FunctionDef _ _ b _ _ _ _ _ _ _=>b
 | _=>[]
def aq (s:Stmt):Scope:=match s with
 | .FunctionDef _ _ _ _ _ _ sc _ _ _=>sc
 | _=>{ kind:=.function,names:=[],isGenerator:=false,isCoroutine:=false }
abbrev cC:KZ:=fun _ _ _ _ _ _=>False
abbrev E0:XK:=fun _ _ _=>False
theorem aR {X:Cx}:Passes cC X E0:=fun _ _ _ _ _ _ _ h=>h.elim
structure lH (K:PySem.W.Frag) (x qual:Str) (st:Stmt) (f:Addr) (fd:FuncData):Prop where
 ex:∃ (oc:Value) (od:Option Addr) (kV doc pm:Value) (an:Option Addr) (cdv ct:Value) (osl:Array (Option Value)),
   fd=PySem.W.fnOf x qual (bh st) (aZ st) (aq st) .none kV doc pm an cdv ct/\K.lookup f=some ⟨oc,od,.func fd,osl⟩/\PySem.W.codeIn K cdv qual=true
 kp:PySem.W.keepIn K (.ref f)=true
section
variable {P:Program} {w:World} {K:PySem.W.Frag} {mg:Str->Option Value} {base:Heap}
theorem lH.ok {x qual:Str} {st:Stmt} {f:Addr} {fd:FuncData} {N ps:List Str} {k:Nat} {sp:Sp} (F:lH K x qual st f fd) (S:bx N ps (aq st)) (len:∀ vs H Q E,sp vs H Q E->vs.length=ps.length)
   (hbody:∀ (cdv:Value) (A:Around) (outer:List Env) (s:Shared) (H:Hp) (vs:List V) (Q:VK) (E:XK),lG k (A.deeper (envOfC qual (aq st) s.heap.objs.size f cdv))->sp vs H Q E ->
     ∃ t,Gn (K1 cC P w K mg base N qual (aq st) f cdv A outer s H E).nox (aZ st) t/\t { nx:=fun _ H'=>Q .non H',rt:=Q } (start N vs) H):aQ P w K mg base cC (k+1) f fd ps sp:=by
 obtain ⟨oc,od,kV,doc,pm,an,cdv,ct,osl,rfl,lk,hcd⟩:=F.ex
 refine abb lk hcd S len fun A outer s H vs Q E hr hsp=>?_
 obtain ⟨t,h,q⟩:=hbody cdv A outer s H vs Q E hr hsp
 exact ⟨t,h.nox,q⟩
theorem lH.binds {x qual:Str} {st:Stmt} {f:Addr} {fd:FuncData} {ps:List Str} (F:lH K x qual st f fd)
   (h:∀ (kV doc pm:Value) (an:Option Addr) (cdv ct:Value) (us:List Value),us.length=ps.length->bindArgs (PySem.W.fnOf x qual (bh st) (aZ st) (aq st) .none kV doc pm an cdv ct) ⟨us,[]⟩=pure (ps.zip us)):Binds K fd ps []:=by
 obtain ⟨oc,od,kV,doc,pm,an,cdv,ct,osl,rfl,lk,hcd⟩:=F.ex
 exact .all (h kV doc pm an cdv ct)
theorem bW {x qual:Str} {st:Stmt} {f:Addr} {oc:Value} {od an:Option Addr} {osl:Array (Option Value)} {kV doc pm cdv ct:Value} (l:K.lookup f=some ⟨oc,od,.func (PySem.W.fnOf x qual (bh st) (aZ st) (aq st) .none kV doc pm an cdv ct),osl⟩)
   (c:PySem.W.codeIn K cdv qual=true) (k:PySem.W.keepIn K (.ref f)=true):lH K x qual st f (PySem.W.fnOf x qual (bh st) (aZ st) (aq st) .none kV doc pm an cdv ct):=⟨⟨oc,od,kV,doc,pm,an,cdv,ct,osl,rfl,l,c⟩,k⟩
end
theorem oh {A:Around} {k:Nat} (hr:lG k A):A.units+1<cLine:=Nat.lt_of_le_of_lt (Nat.add_le_add_left (by decide:1<=64) _) hr.units
section
variable {X:Cx}
end
theorem iw {c A B:Prop} [Decidable c] (h1:c->A) (h2:¬ c->B):if c then A else B:=by
 by_cases h:c
 . rw [if_pos h]
   exact h1 h
 . rw [if_neg h]
   exact h2 h
def Same (H H':Hp):Prop:=∀ b o,H b=some o->H' b=some o
theorem Same.refl (H:Hp):Same H H:=fun _ _ h=>h
theorem Same.trans {H H1 H2:Hp} (a:Same H H1) (b:Same H1 H2):Same H H2:=fun c o h=>b c o (a c o h)
theorem Same.free {H H':Hp} (e:Same H H') {l:Addr} (h:H' l=Option.none):H l=Option.none:=by
 cases q:H l with
 | none=>rfl
 | some o =>
   rw [e l o q] at h
   cases h
end L2
namespace L2
open PySem PySem.Spec PyProof.Rows
section
variable {X:Cx}
theorem zG:gU X (.builtin "len") (fun xs H Q=>∃ a kvs,xs=[V.ref a]/\H a=some (.dK kvs)/\Q (.int kvs.length) H):=by
 intro pins s σ H xs us Q I r h
 obtain ⟨a,kvs,rfl,ha,q⟩:=h
 obtain ⟨u,rfl,ru⟩:=vals1 r
 cases ru
 exact abm I (.inl ha) fun t s' I'=>⟨.int kvs.length,H,I',⟨t,rfl⟩,q⟩
end
section
variable {κ:Type} [DecidableEq κ]
theorem T5 {kvs:List (κ × V)} {k:κ} {v:V} (h:eU kvs k=some v):k∈kvs.map (·.1):=by
 have q:(kvs.any fun kv=>decide (kv.1=k))=true:=by
   rw [oO,h]
   all_goals rfl
 obtain ⟨p,hp,e⟩:=List.any_eq_true.mp q
 exact List.mem_map.mpr ⟨p,hp,of_decide_eq_true e⟩
end
end L2
set_option maxHeartbeats 4000000
namespace L2
open PySem PySem.Spec PyProof.Rows
def lU (scope sc:Scope):Scope :=
 { scope with names:=scope.names.map fun (n,k)=>if (k == .free && sc.kind == .function && sc.names.lookup n == some .cell) then (n,.cell) else (n,k) }
structure BI where
 cells:List (Str × Addr)
 C:Addr
 s:Shared
 H:Hp
 fp:List Addr
 pins:List (Addr × Obj)
def Dq (scope:Scope) (cells:List (Str × Addr)) (C:Addr) (env:Env):Env :=
 { scope:=lU scope env.scope,locals:=C,globals:=env.globals,cells:=cells,qual:=env.qual,func:=none,code:=env.code,frame:=env.frame,builtins:=env.builtins }
def blk (X:Cx) (scope:Scope) (N:List Str) (b:BI):Cx where
 prog:=X.prog
 w:=X.w
 K:=X.K
 mg:=X.mg
 base:=X.base
 A:=X.A
 N:=N
 s₀:=b.s
 H₀:=b.H
 env:=Dq scope b.cells b.C X.env
 outer:=X.stack
 stack:=X.stack
 ex:=b.fp
 fn:=fun x=>scope.names.lookup x == some .cell
 calm:=X.calm
 pn:=X.pn++b.pins
 xe:=fun _ _=>False
def gC (env:Env):List (Str × NameKind)->List (Str × Addr)->List (Str × Addr)
 | [],acc=>acc
 | (n,k) :: r,acc=>if k == .free then gC env r ((n,(env.cells.lookup n).getD 0) :: acc) else gC env r acc
theorem qG (env:Env) (f:Str × NameKind->List (Str × Addr)->Sem (ForInStep (List (Str × Addr))))
   (hf:∀ n k cs,f (n,k) cs=if k == .free then (cellOf env n >>= fun a=>pure (.yield ((n,a) :: cs))) else pure (.yield cs)) :
   ∀ (names:List (Str × NameKind)) (acc:List (Str × Addr)),(∀ y∈names,y.2=.free->∃ c,env.cells.lookup y.1=some c)->forIn names acc f=(pure (gC env names acc):Sem _)
 | [],acc,_=>by rw [List.forIn_nil]; rfl
 | (n,k) :: r,acc,h=>by
   rw [List.forIn_cons,hf]
   have hr:∀ y∈r,y.2=.free->∃ c,env.cells.lookup y.1=some c:=fun y hy=>h y (List.mem_cons_of_mem _ hy)
   cases hk:k == NameKind.free with
   | true =>
     obtain ⟨c,hc⟩:=h (n,k) List.mem_cons_self (beq_iff_eq.mp hk)
     have e1:cellOf env n=pure c:=by unfold cellOf; rw [show env.cells.lookup n=some c from hc]
     have e2:gC env ((n,k) :: r) acc=gC env r ((n,c) :: acc):=by
       show (if (k == NameKind.free)=true then _ else _)=_
       rw [if_pos hk,show env.cells.lookup n=some c from hc]; rfl
     rw [e2,if_pos rfl,e1]
     exact qG env f hf r ((n,c) :: acc) hr
   | false =>
     have e2:gC env ((n,k) :: r) acc=gC env r acc:=by
       show (if (k == NameKind.free)=true then _ else _)=_
       rw [if_neg (by rw [hk]; exact Bool.false_ne_true)]
     rw [e2,if_neg Bool.false_ne_true]
     exact qG env f hf r acc hr
theorem qw {scope:Scope} {env:Env} (h:∀ y∈scope.names,y.2=.free->∃ c,env.cells.lookup y.1=some c):closureFor scope env=pure (gC env scope.names []):=by
 simp only [closureFor]
 rw [qG env _ (fun n k cs=>by cases hk:k == NameKind.free <;> simp [hk]) scope.names [] h]
 rfl
theorem kO {env:Env} {x:Str} {c:Addr}:∀ (names:List (Str × NameKind)) (acc:List (Str × Addr)),(gC env names acc).lookup x=some c->acc.lookup x=some c∨((x,NameKind.free)∈names/\c=(env.cells.lookup x).getD 0)
 | [],_,h=>.inl h
 | (n,k) :: r,acc,h=>by
   unfold gC at h
   by_cases hk:(k == NameKind.free)=true
   . rw [if_pos hk] at h
     rcases kO r _ h with z | ⟨z,e⟩
     . rw [List.lookup_cons] at z
       cases hx:x == n with
       | true =>
         rw [hx] at z
         have e1:x=n:=beq_iff_eq.mp hx
         have e2:k=NameKind.free:=beq_iff_eq.mp hk
         exact .inr ⟨by rw [e1,e2]; exact List.mem_cons_self,by rw [e1]; exact (Option.some.inj z).symm⟩
       | false=>rw [hx] at z; exact .inl z
     . exact .inr ⟨List.mem_cons_of_mem _ z,e⟩
   . rw [if_neg hk] at h
     rcases kO r _ h with z | ⟨z,e⟩
     . exact .inl z
     . exact .inr ⟨List.mem_cons_of_mem _ z,e⟩
theorem qH {env:Env} {x:Str}:∀ (names:List (Str × NameKind)) (acc:List (Str × Addr)),((x,NameKind.free)∈names∨∃ c,acc.lookup x=some c)->∃ c,(gC env names acc).lookup x=some c
 | [],_,h=>h.elim (fun z=>nomatch z) fun z=>z
 | (n,k) :: r,acc,h=>by
   unfold gC
   by_cases hk:(k == NameKind.free)=true
   . rw [if_pos hk]
     refine qH r _ ?_
     by_cases hx:x=n
     . exact .inr ⟨_,by rw [List.lookup_cons,beq_iff_eq.mpr hx]⟩
     . rcases h with z | ⟨c,z⟩
       . rcases List.mem_cons.mp z with e | z
         . exact absurd (congrArg Prod.fst e) hx
         . exact .inl z
       . exact .inr ⟨c,by rw [List.lookup_cons,beq_eq_false_iff_ne.mpr hx]; exact z⟩
   . rw [if_neg hk]
     refine qH r _ ?_
     rcases h with z | z
     . rcases List.mem_cons.mp z with e | z
       . have e2:NameKind.free=k:=congrArg Prod.snd e
         exact absurd (beq_iff_eq.mpr e2.symm) hk
       . exact .inl z
     . exact .inr z
theorem d8:∀ (names:List (Str × NameKind)) (n:Nat) (acc:List (Str × Addr)),cellsFrom n names acc=cellsFrom n names []++acc
 | [],_,_=>rfl
 | (x,k) :: r,n,acc=>by
   unfold cellsFrom
   split
   . rw [d8 r (n+1) ((x,n) :: acc),d8 r (n+1) [(x,n)],List.append_assoc]; rfl
   . exact d8 r n acc
theorem iT {x:Str} {c:Addr}:∀ (names:List (Str × NameKind)) (n:Nat) (acc:List (Str × Addr)),(x,c)∈cellsFrom n names acc->(x,c)∈acc∨(x,NameKind.cell)∈names
 | [],_,_,h=>.inl h
 | (y,k) :: r,n,acc,h=>by
   unfold cellsFrom at h
   split at h
   . rename_i hk
     rcases iT r _ _ h with z | z
     . rcases List.mem_cons.mp z with e | z
       . have e1:x=y:=congrArg Prod.fst e
         rw [e1,<- beq_iff_eq.mp hk]; exact .inr List.mem_cons_self
       . exact .inl z
     . exact .inr (List.mem_cons_of_mem _ z)
   . rcases iT r _ _ h with z | z
     . exact .inl z
     . exact .inr (List.mem_cons_of_mem _ z)
theorem lookup_append {α:Type} {x:Str}:∀ (l m:List (Str × α)),(l++m).lookup x=match l.lookup x with | some c=>some c | none=>m.lookup x
 | [],m=>rfl
 | (y,c) :: l,m=>by
   rw [List.cons_append,List.lookup_cons,List.lookup_cons]
   cases x == y with
   | true=>rfl
   | false=>exact lookup_append l m
theorem oR {α:Type} {x:Str}:∀ {l:List (Str × α)},(∀ c,(x,c) ∉ l)->l.lookup x=none
 | [],_=>rfl
 | (y,c) :: l,h=>by
   rw [List.lookup_cons]
   have hx:x≠y:=fun e=>h c (by rw [e]; exact List.mem_cons_self)
   rw [beq_eq_false_iff_ne.mpr hx]
   exact oR fun c hc=>h c (List.mem_cons_of_mem _ hc)
theorem qx {sc:Scope} {x:Str}:∀ (names:List (Str × NameKind)),(names.map fun (n,k)=>if (k == NameKind.free && sc.kind == .function && sc.names.lookup n == some .cell) then (n,NameKind.cell) else (n,k)).lookup x =
   (names.lookup x).map fun k=>if (k == NameKind.free && sc.kind == .function && sc.names.lookup x == some .cell) then NameKind.cell else k
 | []=>rfl
 | (n,k) :: r=>by
   have ih:=qx (sc:=sc) (x:=x) r
   rw [List.map_cons]
   by_cases hc:(k == NameKind.free && sc.kind == .function && sc.names.lookup n == some .cell)=true
   . show List.lookup x ((if (k == NameKind.free && sc.kind == .function && sc.names.lookup n == some .cell)=true then (n,NameKind.cell) else (n,k)) :: _)=_
     rw [if_pos hc,List.lookup_cons,List.lookup_cons]
     cases hx:x == n with
     | true =>
       have e:x=n:=beq_iff_eq.mp hx
       subst e
       show some NameKind.cell=some (if (k == NameKind.free && sc.kind == .function && sc.names.lookup x == some .cell)=true then NameKind.cell else k)
       rw [if_pos hc]
     | false=>exact ih
   . show List.lookup x ((if (k == NameKind.free && sc.kind == .function && sc.names.lookup n == some .cell)=true then (n,NameKind.cell) else (n,k)) :: _)=_
     rw [if_neg hc,List.lookup_cons,List.lookup_cons]
     cases hx:x == n with
     | true =>
       have e:x=n:=beq_iff_eq.mp hx
       subst e
       show some k=some (if (k == NameKind.free && sc.kind == .function && sc.names.lookup x == some .cell)=true then NameKind.cell else k)
       rw [if_neg hc]
     | false=>exact ih
theorem wj {M:Model} {A:Around} {E:Value->Shared->Prop} {s:Shared} {scope:Scope} {globals:Addr} {cl:List (Str × Addr)} {qual:Str} {env:Env} {Q:Env->Shared->Prop}
   (hQ:Q (newEnv scope s.heap.objs.size globals (cellsFrom (s.heap.objs.size+1) scope.names cl) qual none .none (some env) builtinsNs) { s with heap:=pushCells (s.heap.push { cls:=.type "dict",data:=.dict #[] }) scope.names }) :
   wpAny M A (newFunctionEnv scope globals cl [] qual none .none (some env)) Q E s:=by
 simp only [newFunctionEnv,Option.isSome_some,if_true]
 refine wpAny_bind (wpAny_alloc ?_)
 refine wpAny_bind (wpAny_layCells _ (fun name kind cells=>by cases hkc:kind == NameKind.cell <;> simp [hkc]) _ _ _ _ ?_)
 rw [show ({ s with heap:=s.heap.push { cls:=.type "dict",data:=.dict #[] } }:Shared).heap.objs.size=s.heap.objs.size+1 from Heap.size_push ..]
 simp only [List.forIn_nil]
 exact wpAny_bind (wpAny_pure (wpAny_pure hQ))
structure tU (gW scope:Scope) (N' own cp:List Str) (ixs:List Nat):Prop where
 kind:scope.kind=.function
 nm:∀ y∈scope.names,scope.names.lookup y.1=some y.2
 free:∀ y∈scope.names,y.2=.free->gW.names.lookup y.1=some .cell∨gW.names.lookup y.1=some .free
 cap:∀ x∈cp,scope.names.lookup x=some .free
 ix:ixs.map (fun i=>N'[i]?)=cp.map some
 nd:(own++cp).Nodup
def Jx (own:List Str) (ix:List Nat) (σ:St):St:=own.map (fun _=>none)++ix.map fun i=>(σ[i]?).getD none
end L2
namespace L2
open PySem PySem.Spec PyProof.Rows
section
variable {X:Cx} {pins:List (Addr × Obj)} {σ:St} {H:Hp} {s:Shared}
abbrev Yk (s:Shared) (scope:Scope):Heap:=pushCells (s.heap.push { cls:=.type "dict",data:=.dict #[] }) scope.names
abbrev Te (X:Cx) (s:Shared) (scope:Scope):List (Str × Addr):=cellsFrom (s.heap.objs.size+1) scope.names (gC X.env scope.names [])
abbrev vI (X:Cx) (pins:List (Addr × Obj)) (s:Shared) (H:Hp) (scope:Scope) (fp:List Addr):BI:=⟨Te X s scope,s.heap.objs.size,s,H,fp,pins⟩
theorem tW (s:Shared) (scope:Scope) (b:Addr) (o:Obj) (e:s.heap.get? b=some o):(Yk s scope).get? b=some o:=pushCells_keeps _ _ b o (Heap.get?_push_of_some _ e)
theorem Jy (s:Shared) (scope:Scope):CellsOk (Yk s scope) (s.heap.objs.size+1) (cellsFrom (s.heap.objs.size+1) scope.names []):=by
 have ok:=cellsFrom_ok scope.names (s.heap.push { cls:=.type "dict",data:=.dict #[] }) (s.heap.objs.size+1) [] ⟨fun _ _ hm=>(nomatch hm),List.Pairwise.nil⟩ (by rw [Heap.size_push]; exact Nat.le_refl _)
 rw [Heap.size_push] at ok
 exact ok
theorem lV {gW scope:Scope} {N' own cap:List Str} {ix:List Nat} (S:tU gW scope N' own cap ix) (hX:X.env.scope=gW) (I:Inv X pins σ H s) {x:Str} {c:Addr} (h:(Te X s scope).lookup x=some c) :
   ((x,c)∈cellsFrom (s.heap.objs.size+1) scope.names []/\s.heap.objs.size+1<=c/\scope.names.lookup x=some .cell)∨(X.env.cells.lookup x=some c/\scope.names.lookup x=some .free):=by
 have h':(cellsFrom (s.heap.objs.size+1) scope.names (gC X.env scope.names [])).lookup x=some c:=h
 rw [d8,lookup_append] at h'
 cases e:(cellsFrom (s.heap.objs.size+1) scope.names []).lookup x with
 | some c' =>
   rw [e] at h'
   cases h'
   have m:=PySem.mem_of_lookup e
   refine .inl ⟨m,((Jy s scope).empty _ _ m).2,?_⟩
   rcases iT _ _ _ m with z | z
   . exact nomatch z
   . exact S.nm _ z
 | none =>
   rw [e] at h'
   rcases kO _ _ h' with z | ⟨z,ec⟩
   . exact nomatch z
   . have hf:=S.free _ z rfl
     rw [<- hX] at hf
     obtain ⟨c',e'⟩:=I.ok.has x hf
     rw [e'] at ec
     exact .inr ⟨by rw [e',ec]; rfl,S.nm _ z⟩
theorem Dr {gW scope:Scope} {N' own cap:List Str} {ix:List Nat} (S:tU gW scope N' own cap ix) (hX:X.env.scope=gW) (I:Inv X pins σ H s) {x:Str} (hx:scope.names.lookup x=some .free) :
   ∃ c,X.env.cells.lookup x=some c/\(Te X s scope).lookup x=some c:=by
 have m:=PySem.mem_of_lookup hx
 have hf:=S.free _ m rfl
 rw [<- hX] at hf
 obtain ⟨c,e⟩:=I.ok.has x hf
 refine ⟨c,e,?_⟩
 have n1:(cellsFrom (s.heap.objs.size+1) scope.names []).lookup x=none:=oR fun c' hc'=>by
   rcases iT _ _ _ hc' with z | z
   . exact nomatch z
   . have:=S.nm _ z
     rw [hx] at this
     cases this
 obtain ⟨c',e'⟩:=qH (env:=X.env) (x:=x) scope.names [] (.inl m)
 show (cellsFrom (s.heap.objs.size+1) scope.names (gC X.env scope.names [])).lookup x=some c
 rw [d8,lookup_append,n1]
 show (gC X.env scope.names []).lookup x=some c
 rcases kO _ _ e' with z | ⟨_,z⟩
 . exact nomatch z
 . rw [e',z,e]; rfl
theorem kindB {scope sc:Scope} {x:Str}:(lU scope sc).names.lookup x=(scope.names.lookup x).map fun k=>if (k == NameKind.free && sc.kind == .function && sc.names.lookup x == some .cell) then NameKind.cell else k:=qx scope.names
theorem abq {gW scope:Scope} {own cap:List Str} {ix:List Nat} (S:tU gW scope X.N own cap ix) (hX:X.env.scope=gW) (I:Inv X pins σ H s) {h':Heap} {m:Str->Option Value} (keep:∀ x c v,X.env.cells.lookup x=some c->s.heap.IsCell c v->h'.IsCell c v)
   (i:Nat) (x:Str) (v:V) (e1:(own++cap)[i]?=some x) (e2:(Jx own ix σ)[i]?=some (some v)):∃ u,RelV v u/\Look (Dq scope (Te X s scope) s.heap.objs.size X.env) h' m x u:=by
 have hi:¬ i<own.length:=fun hi=>by
   unfold Jx at e2
   rw [List.getElem?_append_left (by simpa using hi),List.getElem?_map] at e2
   cases q:own[i]? with
   | none=>rw [q] at e2; cases e2
   | some y=>rw [q] at e2; cases e2
 have e1':cap[i-own.length]?=some x:=by
   rw [List.getElem?_append_right (by omega)] at e1
   exact e1
 have e2':∃ k,ix[i-own.length]?=some k/\σ[k]?=some (some v):=by
   unfold Jx at e2
   rw [List.getElem?_append_right (by simpa using Nat.le_of_not_lt hi),List.getElem?_map,List.length_map] at e2
   cases q:ix[i-own.length]? with
   | none=>rw [q] at e2; cases e2
   | some k =>
     rw [q] at e2
     have e3:(σ[k]?).getD none=some v:=Option.some.inj e2
     cases q2:σ[k]? with
     | none=>rw [q2] at e3; cases e3
     | some z =>
       rw [q2] at e3
       exact ⟨k,rfl,by rw [q2,show z=some v from e3]⟩
 obtain ⟨k,hk,hv⟩:=e2'
 have hN:X.N[k]?=some x:=by
   have z:=congrArg (fun l=>l[i-own.length]?) S.ix
   simp only [List.getElem?_map] at z
   rw [hk,e1'] at z
   exact Option.some.inj z
 have hx:=S.cap x (List.mem_of_getElem? e1')
 have m':=PySem.mem_of_lookup hx
 have hf:=S.free _ m' rfl
 rw [<- hX] at hf
 obtain ⟨m0,_,hl⟩:=I.loc
 obtain ⟨u,r,l⟩:=hl k x v hN hv (hf.elim (fun z=>.inr (.inl z)) fun z=>.inr (.inr z))
 refine ⟨u,r,?_⟩
 have l':∃ c,X.env.cells.lookup x=some c/\s.heap.IsCell c (some u):=by
   rcases l with ⟨z,_⟩ | ⟨_,c,z,q⟩
   . rcases hf with y | y
     . rw [show X.env.kindOf x=some .cell from y] at z; cases z
     . rw [show X.env.kindOf x=some .free from y] at z; cases z
   . exact ⟨c,z,q⟩
 obtain ⟨c,ec,hc⟩:=l'
 obtain ⟨c',ec',eb⟩:=Dr S hX I hx
 rw [ec] at ec'
 cases ec'
 refine .inr ⟨?_,c,eb,keep x c _ ec hc⟩
 have kb:(Dq scope (Te X s scope) s.heap.objs.size X.env).kindOf x=some (if (NameKind.free == NameKind.free && X.env.scope.kind == .function && X.env.scope.names.lookup x == some .cell) then NameKind.cell else NameKind.free):=by
   show (lU scope X.env.scope).names.lookup x=_
   rw [kindB,hx]; rfl
 rw [kb]
 by_cases q:(NameKind.free == NameKind.free && X.env.scope.kind == .function && X.env.scope.names.lookup x == some .cell)=true
 . rw [if_pos q]; exact .inl rfl
 . rw [if_neg q]; exact .inr rfl
theorem Jz {gW scope:Scope} {own cap:List Str} {ix:List Nat} {fp:List Addr} (S:tU gW scope X.N own cap ix) (hX:X.env.scope=gW) (I:Inv X pins σ H s) (hf:∀ b∈fp,kJ X pins H b) (ho:∀ b∈fp,∃ o,s.heap.get? b=some o) :
   Inv (blk X scope (own++cap) (vI X pins s H scope fp)) [] (Jx own ix σ) H { s with heap:=Yk s scope }:=by
 have kp:=tW s scope
 have own1:=Jy s scope
 have ltC:∀ x c,X.env.cells.lookup x=some c->c<s.heap.objs.size:=fun x c e=>by
   obtain ⟨v,o,e',_⟩:=I.cell x c e
   exact Heap.lt_size e'
 have Tf:∀ b∈fp,b<s.heap.objs.size:=fun b hb=>let ⟨_,e⟩:=ho b hb; Heap.lt_size e
 have abr:∀ b,b≠X.env.locals->b ∉ X.fs->b ∉ frs X.stack:=fun b h1 h2 hb=>by
   rcases List.mem_cons.mp (I.Gm b hb) with e | e
   . exact h1 e
   . exact h2 e
 refine ⟨⟨I.ok.mod,S.kind,I.ok.glob,I.ok.blt,Nat.le_refl _,fun x y c h1 h2=>?_,fun x hx=>?_,fun x c hx h=>?_,I.ok.hd,I.ok.frames,.inl rfl,fun b hb=>⟨?_,fun x c h=>?_⟩,I.bs,Nat.le_trans I.ok.Wf I.sz,fun b o e hb=>?_,fun b hb=>?_,I.stack,I.Jj⟩,
   rfl,I.bare,Un.kept kp,⟨fun _=>none,?_,fun i x v e1 e2 _=>abq S hX I (fun x c v _ hc=>hc.keeps kp) i x v e1 e2⟩,fun x c h=>?_,I.hok.fresh (Nat.le_refl _),fun x c h=>?_,fun p hp=>?_,I.hok.kept kp,?_⟩
 . rcases lV S hX I h1 with ⟨m1,l1,_⟩ | ⟨m1,_⟩ <;> rcases lV S hX I h2 with ⟨m2,l2,_⟩ | ⟨m2,_⟩
   . exact name_of_addr own1.apart m1 m2
   . exact absurd (Nat.lt_of_lt_of_le (ltC _ _ m2) (Nat.le_of_succ_le l1)) (Nat.lt_irrefl _)
   . exact absurd (Nat.lt_of_lt_of_le (ltC _ _ m1) (Nat.le_of_succ_le l2)) (Nat.lt_irrefl _)
   . exact I.ok.inj x y c m1 m2
 . have hx':(lU scope X.env.scope).names.lookup x=some .cell∨(lU scope X.env.scope).names.lookup x=some .free:=hx
   rw [kindB] at hx'
   cases q:scope.names.lookup x with
   | none=>rw [q] at hx'; rcases hx' with z | z <;> cases z
   | some k =>
     rw [q] at hx'
     cases k with
     | free=>obtain ⟨c,_,e⟩:=Dr S hX I q; exact ⟨c,e⟩
     | cell =>
       obtain ⟨c,e⟩:=v8 (sc:=scope) (n:=s.heap.objs.size+1) q
       refine ⟨c,?_⟩
       show (cellsFrom (s.heap.objs.size+1) scope.names (gC X.env scope.names [])).lookup x=some c
       rw [d8,lookup_append,e]
     | _=>rcases hx' with z | z <;> cases z
 . have hx':(scope.names.lookup x == some .cell)=true:=hx
   rcases lV S hX I h with ⟨_,l1,_⟩ | ⟨_,z⟩
   . show s.heap.objs.size<=c; omega
   . rw [z] at hx'; exact absurd hx' (by decide)
 . exact Nat.ne_of_lt (Tf b hb)
 . rcases lV S hX I h with ⟨_,l1,_⟩ | ⟨z,_⟩
   . intro z; rw [z] at l1; exact absurd (Nat.lt_of_lt_of_le (Tf b hb) (Nat.le_of_succ_le l1)) (Nat.lt_irrefl _)
   . exact (hf b hb).2.2.2.2.1 x c z
 . rcases (hf b hb).2.2.2.1 with z | z
   . exact I.ok.Om b o e z
   . exact absurd (Nat.lt_of_lt_of_le (Nat.lt_of_lt_of_le (Heap.lt_size e) I.ok.Wf) z) (Nat.lt_irrefl _)
 . exact abr b (hf b hb).2.1 (hf b hb).2.2.1
 . exact (Heap.Ns.new s.heap (.type "dict")).keeps (pushCells_keeps _ _)
 . rcases lV S hX I h with ⟨m1,_,_⟩ | ⟨z,_⟩
   . exact ⟨none,(own1.empty _ _ m1).1⟩
   . obtain ⟨v,q⟩:=I.cell x c z
     exact ⟨v,q.keeps kp⟩
 . rcases lV S hX I h with ⟨_,l1,_⟩ | ⟨z,_⟩
   . exact I.hok.fresh (by omega)
   . exact I.n6 x c z
 . have hp':p∈X.pn++pins:=by
     rcases List.mem_append.mp hp with z | z
     . exact z
     . exact nomatch z
   obtain ⟨e,n,ne,nf,d⟩:=I.pin p hp'
   exact ⟨kp _ _ e,n,Nat.ne_of_lt (Heap.lt_size e),abr _ ne nf,d⟩
 . unfold Jx
   show (own.map (fun _=>(none:Option V))++ix.map fun i=>(σ[i]?).getD none).length=(own++cap).length
   have z:=congrArg List.length S.ix
   rw [List.length_map,List.length_map] at z
   rw [List.length_append,List.length_append,List.length_map,List.length_map,z]
theorem K9 {gW scope:Scope} {own cap:List Str} {ix:List Nat} {fp:List Addr} {pl:List (Addr × Obj)} {σ':St} {H':Hp} {s':Shared} (S:tU gW scope X.N own cap ix) (hX:X.env.scope=gW) (I:Inv X pins σ H s) (hf:∀ b∈fp,kJ X pins H b)
   (J:Inv (blk X scope (own++cap) (vI X pins s H scope fp)) pl σ' H' s'):Inv (blk X scope (own++cap) (vI X pins s H scope fp)) pl (Jx own ix σ) H' s':=by
 obtain ⟨m,hn,_⟩:=id J.loc
 refine ⟨J.ok,J.os,J.bare,J.base,⟨m,hn,fun i x v e1 e2 _=>abq S hX I (fun x c v ec hc=>?_) i x v e1 e2⟩,J.cell,J.free,J.n6,J.pin,J.hok,?_⟩
 . obtain ⟨o,e,d⟩:=hc
   obtain ⟨sl,e'⟩:=J.base.any e (I.n6 x c ec) fun hb=>(hf c hb).2.2.2.2.1 x c ec rfl
   exact ⟨_,e',d⟩
 . have z:=congrArg List.length S.ix
   rw [List.length_map,List.length_map] at z
   show (Jx own ix σ).length=(own++cap).length
   unfold Jx
   rw [List.length_append,List.length_append,List.length_map,List.length_map,z]
theorem JB {scope:Scope} {own cap:List Str} {fp:List Addr} {σ':St} {H':Hp} {s':Shared} {h':Heap} (I:Inv X pins σ H s) (hf:∀ b∈fp,kJ X pins H b)
   (J:Inv (blk X scope (own++cap) (vI X pins s H scope fp)) [] σ' H' s') (hs:Heap.SameBut s.heap.objs.size s'.heap h'):Inv X pins σ H' { s' with heap:=h' }:=by
 have I1:Inv X pins σ H' s':=I.call' (ch:=fp) J.os J.base J.hok J.bare fun b hb=>⟨(hf b hb).2.2.2.1,(hf b hb).2.1,(hf b hb).2.2.2.2.1,(hf b hb).2.2.2.2.2⟩
 have n1:s.heap.objs.size≠X.env.locals:=Nat.ne_of_gt I.lt
 refine I1.turned (it:=s.heap.objs.size) (t':=s'.toks) (fun b o hb e=>(hs.2 b hb).trans e) J.free n1 (.inr I.sz) (fun x c e z=>?_) fun p hp z=>?_
 . obtain ⟨v,o,e',_⟩:=I.cell x c e
   exact absurd z (Nat.ne_of_lt (Heap.lt_size e'))
 . exact absurd z (Nat.ne_of_lt (Heap.lt_size (I.pin p hp).1))
end
def La (X:Cx) (ifs:List Expr) (t:TT):Prop :=
 ∀ (pins:List (Addr × Obj)) (s:Shared) (σ:St) (H:Hp) (Q:Bool->Hp->Prop),Inv X pins σ H s->t σ H Q ->
   wpAny (model X.prog X.w) X.A (forIn ifs true fun c r=>if r=true then do let ok <- isTrue c X.env (eval c X.env); pure (ForInStep.yield ok) else pure (ForInStep.yield r)) (TP X pins σ Q) X.xe s
def Bg:TT:=fun _ H Q=>Q true H
theorem bZ {X:Cx}:La X [] Bg:=fun _ _ _ H _ I h=>wpAny_tests_nil ⟨H,I,h⟩
def oU (J:It) (g:TG) (tt:TT) (act:St->Hp->(Hp->Prop)->Prop) (σ0:St) (End:Hp->Prop) (W:Nat->Nat->Hp->Prop):Prop :=
 ∀ i m H,W i m H->(J.stop i H/\End H)∨(J.go i H/\∀ x H',J.Oq i H x H'->g x σ0 H' fun σ2 H2=>tt σ2 H2 fun b H3 =>
   if b=true then act σ2 H3 fun H4=>∃ m',m'<m/\W (i+1) m' H4 else ∃ m',m'<m/\W (i+1) m' H3)
def qm (D:Addr) (te:TE):St->Hp->(Hp->Prop)->Prop:=fun σ H R=>te σ H fun y H4=>∃ zs,H4 D=some (.lst zs)/\zs.length<sizeLine/\R (upd H4 D (.lst (zs++[y])))
def JC (own:List Str) (ix:List Nat) (wi:TI) (g:BI->TG) (tt:BI->TT) (te:BI->TE):TE:=fun σ H Q=>wi σ H fun J H1=>∀ D,H1 D=none ->
 ∃ W:Nat->Nat->Hp->Prop,(∃ m,W 0 m (upd H1 D (.lst [])))/\∀ b,oU J (g b) (tt b) (qm D (te b)) (Jx own ix σ) (fun H'=>Q (.ref D) H') W
section
variable {X:Cx} {tg iter elt:Expr} {ifs:List Expr} {scope gW:Scope} {pos:Pos} {own cap:List Str} {ix:List Nat} {wi:TI} {g:BI->TG} {tt:BI->TT} {te:BI->TE}
theorem Lb {pins:List (Addr × Obj)} {σ:St} {H:Hp} {s:Shared} {J:It} {fp:List Addr} {it D:Addr} {tn:Nat->Heap->Prop} {End:Hp->Prop} {W:Nat->Nat->Hp->Prop} {m0:Nat} {s4:Shared}
   (S:tU gW scope X.N own cap ix) (hX:X.env.scope=gW) (I:Inv X pins σ H s) (hf:∀ b∈fp,kJ X pins H b) (hc:X.calm=true) (T:Turn X.prog X.w X.K tg J fp it tn)
   (hg:PG (blk X scope (own++cap) (vI X pins s H scope fp)) tg (g (vI X pins s H scope fp))) (ht:La (blk X scope (own++cap) (vI X pins s H scope fp)) ifs (tt (vI X pins s H scope fp)))
   (he:PE (blk X scope (own++cap) (vI X pins s H scope fp)) elt (te (vI X pins s H scope fp)))
   (hW:oU J (g (vI X pins s H scope fp)) (tt (vI X pins s H scope fp)) (qm D (te (vI X pins s H scope fp))) (Jx own ix σ) End W)
   (I4:Inv (blk X scope (own++cap) (vI X pins s H scope fp)) [] (Jx own ix σ) H s4) (Yl:tn 0 s4.heap) (w0:W 0 m0 H) :
   codeAny (model X.prog X.w) X.A (.compLoop (.ListComp elt [⟨tg,iter,ifs,0⟩] scope pos) 0 (.ref it) (.ref D) (Dq scope (Te X s scope) s.heap.objs.size X.env))
     (fun r s'=>∃ H' σ',r=.ok .next/\Inv (blk X scope (own++cap) (vI X pins s H scope fp)) [] σ' H' s'/\End H') s4:=by
 have stat:∀ {H':Hp} {pl:List (Addr × Obj)},(∀ b∈fp,H' b=none)->(∀ p∈pl,p.1 ∉ fp)->∀ b∈fp,kJ (blk X scope (own++cap) (vI X pins s H scope fp)) [] H' b:=fun hn _ b hb=>by
   refine ⟨hn b hb,(I4.ok.exf b hb).1,I4.ok.KC b hb,.inl hb,(I4.ok.exf b hb).2,fun p hp=>?_⟩
   have hp':p∈X.pn++pins:=by
     rcases List.mem_append.mp hp with z | z
     . exact z
     . exact nomatch z
   exact (hf b hb).2.2.2.2.2 p hp'
 refine codeAny_loop rfl (fun n s'=>∃ i H',Inv (blk X scope (own++cap) (vI X pins s H scope fp)) [] (Jx own ix σ) H' s'/\tn i s'.heap/\(∀ b∈fp,H' b=none)/\W i n H') ?_ m0 ⟨0,H,I4,Yl,fun b hb=>(hf b hb).1,w0⟩
 rintro n s3 ⟨i,H3,I3,st3,XC,w3⟩
 show wpAny _ X.A ((compTurn (.ListComp elt [⟨tg,iter,ifs,0⟩] scope pos) 0 (.ref it) (.ref D) (Dq scope (Te X s scope) s.heap.objs.size X.env)).onRaise (fun x=>do noteFrame x (Dq scope (Te X s scope) s.heap.objs.size X.env); theTreesLotGoes x)) _ _ s3
 refine wpAny_noted ?_
 rw [compTurn_list]
 have st0:=stat (pl:=[]) XC (fun _ z=>nomatch z)
 rcases hW i n H3 w3 with ⟨stop,qe⟩ | ⟨go,step⟩
 . refine wpAny_bind (wpAny_standAt (wpAny_bind (d7 (T.done (blk X scope (own++cap) (vI X pins s H scope fp)) rfl rfl rfl hc i [] s3 _ H3 _ I3 st0 st3 stop) fun r s5 ⟨hr,I5⟩=>?_)))
   subst hr
   exact wpAny_pure ⟨H3,_,rfl,I5,qe⟩
 . refine wpAny_bind (wpAny_standAt (wpAny_bind (d7 (T.item (blk X scope (own++cap) (vI X pins s H scope fp)) rfl rfl rfl hc i [] s3 _ H3 _ I3 st0 st3 go) fun r s5 ⟨u,hr,h5⟩=>?_)))
   subst hr
   refine wpAny_bind (d7 h5 fun _ s6 ⟨x,H6,I6,r6,y6,Ym,fr6⟩=>?_)
   have I6':=I6.pinned (stat (pl:=[]) fr6 (fun _ z=>nomatch z)) (T.obj _ _ Ym)
   refine wpAny_bind (wpAny_mono (hg _ s6 _ H6 x u _ I6' r6 (step x H6 y6)) (fun _ s7 ⟨σ7,H7,I7,q7⟩=>?_) fun _ _ f=>f.elim)
   refine wpAny_bind (wpAny_mono (ht _ s7 σ7 H7 _ I7 q7) (fun ok s8 ⟨H8,I8,q8⟩=>?_) fun _ _ f=>f.elim)
   have again:∀ {σ9:St} {H9:Hp} {s9:Shared} {m':Nat},Inv (blk X scope (own++cap) (vI X pins s H scope fp)) ([]++tM fp s6.heap) σ9 H9 s9->m'<n->W (i+1) m' H9 ->
       ∃ m,m<n/\∃ i H',Inv (blk X scope (own++cap) (vI X pins s H scope fp)) [] (Jx own ix σ) H' s9/\tn i s9.heap/\(∀ b∈fp,H' b=none)/\W i m H':=fun {σ9 H9 s9 m'} I9 hm w9=>by
     refine ⟨m',hm,i+1,H9,K9 S hX I hf I9.oK,T.keep _ _ _ Ym fun b hb o e=>(I9.pin (b,o) (List.mem_append_right _ (List.mem_append_right _ (jh hb e)))).1,fun b hb=>?_,w9⟩
     obtain ⟨o,e,d⟩:=T.obj _ _ Ym b hb
     exact (I9.pin (b,o) (List.mem_append_right _ (List.mem_append_right _ (jh hb e)))).2.1
   cases ok with
   | false =>
     obtain ⟨m',hm,w9⟩:=q8
     exact wpAny_pure ⟨rfl,again I8 hm w9⟩
   | true =>
     refine wpAny_bind (wpAny_bind (wpAny_mono (he _ s8 σ7 H8 _ I8 q8) (fun y s9 ⟨v,H9,I9,r9,zs,hD,hz,m',hm,w9⟩=>?_) fun _ _ f=>f.elim))
     refine wpAny_bind (wpAny_mono (ji (X:=blk X scope (own++cap) (vI X pins s H scope fp)) _ s9 σ7 H9 (.ref D) [v] (.ref D) [y] (fun _ H'=>∃ m',m'<n/\W (i+1) m' H') I9 rfl (.cons r9 .nil) ⟨D,zs,v,rfl,rfl,hD,hz,m',hm,w9⟩) (fun _ Ob ⟨_,Oc,I10,_,m'',hm',w10⟩=>?_) fun _ _ f=>f.elim)
     exact wpAny_pure (wpAny_pure ⟨rfl,again I10 hm' w10⟩)
theorem wk {pins:List (Addr × Obj)} {σ:St} {H:Hp} {s:Shared} {Q:VK} {use:Option (Value->Sem Unit)} {Q':Value->Shared->Prop} (hc:X.calm=true) (hX:X.env.scope=gW) (S:tU gW scope X.N own cap ix) (hi:PI X tg iter wi)
   (hg:∀ b,PG (blk X scope (own++cap) b) tg (g b)) (ht:∀ b,La (blk X scope (own++cap) b) ifs (tt b)) (he:∀ b,PE (blk X scope (own++cap) b) elt (te b))
   (hs:∀ x,foldedSetIterable iter X.env x=pure x) (I:Inv X pins σ H s) (h:JC own ix wi g tt te σ H Q)
   (out:∀ (D C:Addr) (H':Hp) (s':Shared),Q (.ref D) H'->(∃ m,s'.heap.Ns C m)->kJ X pins H' C->(∀ h',Heap.SameBut C s'.heap h'->Inv X pins σ H' { s' with heap:=h' }) ->
     compPost (model X.prog X.w) X.A X.xe use Q' (.ref D) C (.ok .next) s') :
   wpAny (model X.prog X.w) X.A (comprehension (.ListComp elt [⟨tg,iter,ifs,0⟩] scope pos) scope X.env (firstIterPos [⟨tg,iter,ifs,0⟩] pos) (newList []) false (eval iter X.env) use) Q' X.xe s:=by
 have hclos:=qw (scope:=scope) (env:=X.env) fun y hy hk=>by
   have hf:=S.free y hy hk
   rw [<- hX] at hf
   exact I.ok.has y.1 hf
 refine wpAny_comprehension_free (use:=use) rfl hs hclos S.kind (fun y hy hk=>by rw [S.nm y hy,hk]) (d7 (hi pins s σ H _ I h) fun v s1 h1=>d7 h1 fun itv s2 h2=>?_)
 obtain ⟨it,fp,tn,J,H2,e,I2,T,st2,f2,hR⟩:=h2
 subst e
 refine wpAny_newObj_type ?_
 obtain ⟨W,⟨m0,w0⟩,hW⟩:=hR s2.heap.objs.size I2.fresh
 have I3:Inv X pins σ (upd H2 s2.heap.objs.size (.lst [])) { s2 with heap:=s2.heap.push { cls:=.type "list",data:=.seq ([]:List Value).toArray } }:=I2.Yg (t':=s2.toks) (its:=[]) .nil (Nat.zero_le _)
 have Tf:∀ b∈fp,b<s2.heap.objs.size:=fun b hb=>let ⟨_,e,_⟩:=T.obj _ _ st2 b hb; Heap.lt_size e
 have f3:∀ b∈fp,kJ X pins (upd H2 s2.heap.objs.size (.lst [])) b:=fun b hb=>⟨by rw [aL (Nat.ne_of_lt (Tf b hb))]; exact (f2 b hb).1,(f2 b hb).2⟩
 have st3:tn 0 (s2.heap.push { cls:=.type "list",data:=.seq ([]:List Value).toArray }):=T.keep _ _ _ st2 fun b hb o e=>Heap.get?_push_of_some _ e
 generalize hs3:({ s2 with heap:=s2.heap.push { cls:=.type "list",data:=.seq ([]:List Value).toArray } }:Shared)=s3 at I3
 have O8:tn 0 s3.heap:=by rw [<- hs3]; exact st3
 have ob3:∀ b∈fp,∃ o,s3.heap.get? b=some o:=fun b hb=>let ⟨o,e,_⟩:=T.obj _ _ O8 b hb; ⟨o,e⟩
 have I4:=Jz S hX I3 f3 ob3
 have Yl:tn 0 (Yk s3 scope):=T.keep _ _ _ O8 fun b _ o e=>tW s3 scope b o e
 refine wj ?_
 have loop:=Lb (iter:=iter) (pos:=pos) S hX I3 f3 hc T (hg _) (ht _) (he _) (hW _) I4 Yl w0
 have fin:codeAny (model X.prog X.w) X.A (.compLoop (.ListComp elt [⟨tg,iter,ifs,0⟩] scope pos) 0 (.ref it) (.ref s2.heap.objs.size) (Dq scope (Te X s3 scope) s3.heap.objs.size X.env))
     (compPost (model X.prog X.w) X.A X.xe use Q' (.ref s2.heap.objs.size) s3.heap.objs.size) { s3 with heap:=Yk s3 scope }:=codeAny_mono loop fun r s' ⟨H',σ',hr,J',q⟩=>by
   subst hr
   exact out _ _ H' s' q (let ⟨m,hn,_⟩:=J'.loc; ⟨m,hn⟩) (I3.Av (Nat.le_refl _) J'.free) fun h' hh=>JB I3 f3 J' hh
 exact codeAny_compStart_list fin (T.self _ 0 _ _ _ Yl fin)
theorem cP (hc:X.calm=true) (hX:X.env.scope=gW) (S:tU gW scope X.N own cap ix) (hi:PI X tg iter wi) (hg:∀ b,PG (blk X scope (own++cap) b) tg (g b)) (ht:∀ b,La (blk X scope (own++cap) b) ifs (tt b))
   (he:∀ b,PE (blk X scope (own++cap) b) elt (te b)) (hs:∀ x,foldedSetIterable iter X.env x=pure x:=by intro _; rfl) :
   PE X (.ListComp elt [⟨tg,iter,ifs,0⟩] scope pos) (JC own ix wi g tt te):=by
 intro pins s σ H Q I h
 rw [eval_ListComp]
 refine wk (use:=none) hc hX S hi hg ht he hs I h fun D C H' s' q hn _ hI=>?_
 obtain ⟨m,hn⟩:=hn
 exact ⟨m,hn,fun h' hh=>⟨.ref D,H',hI h' hh,rfl,q⟩⟩
theorem GD {i:Nat} {x:Str} {pos' spos:Pos} (hN:X.N.Nodup) (hx1:X.N[i]?=some x) (hx:X.env.scope.names.lookup x=some .local) (hc:X.calm=true) (hX:X.env.scope=gW) (S:tU gW scope X.N own cap ix) (hi:PI X tg iter wi)
   (hg:∀ b,PG (blk X scope (own++cap) b) tg (g b)) (ht:∀ b,La (blk X scope (own++cap) b) ifs (tt b)) (he:∀ b,PE (blk X scope (own++cap) b) elt (te b)) (hs:∀ x,foldedSetIterable iter X.env x=pure x:=by intro _; rfl)
   (hsw:swapsWith (.ListComp elt [⟨tg,iter,ifs,0⟩] scope pos) (some (.Name x pos')) spos.line X.env=pure true:=by rfl) :
   PS X (.Assign [.Name x pos'] (.ListComp elt [⟨tg,iter,ifs,0⟩] scope pos) spos) (qD (JC own ix wi g tt te) (uZ i)):=by
 intro pins s σ H D I h
 rw [exec_Assign_Name_used _ _ _ _ hsw]
 refine wpAny_bind (wpAny_standAt (wpAny_bind ?_))
 show wpAny _ X.A (do let _ <- comprehension (.ListComp elt [⟨tg,iter,ifs,0⟩] scope pos) scope X.env _ (newList []) false (eval iter X.env) (some (assign (.Name x pos') X.env))) _ _ s
 refine wpAny_bind (wpAny_mono (wk (use:=some (assign (.Name x pos') X.env)) (Q':=fun _ s'=>SP X pins D .next s') hc hX S hi hg ht he hs I h fun D1 C H' s' q hn fC hI=>?_) (fun _ s' hq=>wpAny_pure (wpAny_pure hq)) fun _ _ e=>e)
 obtain ⟨m,hn⟩:=hn
 have I0:Inv X pins σ H' s':=by
   have z:=hI s'.heap (Heap.SameBut.refl ..)
   exact z
 show wpAny _ X.A (assign (.Name x pos') X.env (.ref D1)) _ _ _
 refine wpAny_assign_Name (tH I0 hN hx1 (.inl hx) (show RelV (.ref D1) (.ref D1) from rfl) (fun s2 I2 ⟨a,sb,ha⟩=>?_) (.inr hx))
 have na:C≠a:=by
   rcases ha with e | e
   . rw [e]; exact fC.2.1
   . intro z; exact fC.2.2.2.2.1 x a e z.symm
 refine ⟨m,hn.sameBut sb na,fun h' hh=>?_⟩
 refine ⟨_,H',?_,q⟩
 exact I2.turned (it:=C) (t':=s2.toks) (fun b o hb e=>(hh.2 b hb).trans e) fC.1 fC.2.1 fC.2.2.2.1 fC.2.2.2.2.1 fC.2.2.2.2.2
end
end L2
namespace L2
open PySem PySem.Spec PyProof.Rows
def Its (x:Str):It:=⟨fun i _=>i<x.cps.size,fun i H v H'=>H'=H/\∃ c,x.cps[i]?=some c/\v=.str ⟨#[c]⟩,fun i _=>x.cps.size<=i⟩
theorem Ld {P:Program} {w:World} {K:PySem.W.Frag} {tg:Expr} (it:Addr) (x:Str) (t:Tok):Turn P w K tg (Its x) [it] it (fun i h=>h.IsStrIter it "str_ascii_iterator" x t i) where
 mem:=by simp
 obj:=fun i h st b hb=>by
   have e:b=it:=by simpa using hb
   subst e
   obtain ⟨o,e,c,d⟩:=st
   exact ⟨o,e,fun v z=>by rw [d] at z; cases z⟩
 keep:=fun i h h' st k=>let ⟨o,e,r⟩:=st; ⟨o,k it (by simp) o e,r⟩
 item:=by
   intro X hP hw hK hc i pins s σ H E I hf st hg
   subst hP hw hK
   have hg':i<x.cps.size:=hg
   obtain ⟨f0,f1,f2,f3,f4,f5⟩:=hf it (by simp)
   refine wpAny_pyNext_ascii_item st (c:=x.cps[i]) (by simp [hg']) fun h' st' sb=>?_
   have I1:Inv X pins σ H { s with heap:=h',toks:=s.toks+1 }:=I.turned (fun b o hb e=>(sb.2 b hb).trans e) f0 f1 f3 f4 f5
   obtain ⟨o,e,c,d⟩:=id st'
   exact ⟨_,rfl,zj (s:={ s with heap:=h',toks:=s.toks+1 }) e c d (by decide) ⟨.str ⟨#[x.cps[i]]⟩,H,I1,⟨_,rfl⟩,⟨rfl,_,by simp [hg'],rfl⟩,st',fun b hb=>(hf b hb).1⟩⟩
 done:=by
   intro X hP hw hK hc i pins s σ H E I hf st hg
   subst hP hw hK
   have hg':x.cps.size<=i:=hg
   obtain ⟨f0,f1,f2,f3,f4,f5⟩:=hf it (by simp)
   exact wpAny_pyNext_ascii_end (I.ok.hd hc) st (by simp [hg']) fun h' eb=>⟨rfl,I.turned (t':=s.toks) (fun b o hb e=>eb b o hb e) f0 f1 f3 f4 f5⟩
 self:=fun _ _ _ _ _ st h=>wpAny_pyIter_striter_ascii st h
theorem Le {P:Program} {w:World} {K:PySem.W.Frag} {tg:Expr} (it:Addr) (x:Str) (t:Tok):Turn P w K tg (Its x) [it] it (fun i h=>h.IsStrIter it "str_iterator" x t i) where
 mem:=by simp
 obj:=fun i h st b hb=>by
   have e:b=it:=by simpa using hb
   subst e
   obtain ⟨o,e,c,d⟩:=st
   exact ⟨o,e,fun v z=>by rw [d] at z; cases z⟩
 keep:=fun i h h' st k=>let ⟨o,e,r⟩:=st; ⟨o,k it (by simp) o e,r⟩
 item:=by
   intro X hP hw hK hc i pins s σ H E I hf st hg
   subst hP hw hK
   have hg':i<x.cps.size:=hg
   obtain ⟨f0,f1,f2,f3,f4,f5⟩:=hf it (by simp)
   refine wpAny_pyNext_wide_item st (c:=x.cps[i]) (by simp [hg']) fun h' st' sb=>?_
   have I1:Inv X pins σ H { s with heap:=h',toks:=s.toks+1 }:=I.turned (fun b o hb e=>(sb.2 b hb).trans e) f0 f1 f3 f4 f5
   obtain ⟨o,e,c,d⟩:=id st'
   exact ⟨_,rfl,zj (s:={ s with heap:=h',toks:=s.toks+1 }) e c d (by decide) ⟨.str ⟨#[x.cps[i]]⟩,H,I1,⟨_,rfl⟩,⟨rfl,_,by simp [hg'],rfl⟩,st',fun b hb=>(hf b hb).1⟩⟩
 done:=by
   intro X hP hw hK hc i pins s σ H E I hf st hg
   subst hP hw hK
   have hg':x.cps.size<=i:=hg
   obtain ⟨f0,f1,f2,f3,f4,f5⟩:=hf it (by simp)
   exact wpAny_pyNext_wide_end (I.ok.hd hc) st (by simp [hg']) fun h' eb=>⟨rfl,I.turned (t':=s.toks) (fun b o hb e=>eb b o hb e) f0 f1 f3 f4 f5⟩
 self:=fun _ _ _ _ _ st h=>wpAny_pyIter_striter_wide st h
def ae3 (tl:TE):TI:=fun σ H R=>tl σ H fun x H1=>∃ z,x=.str z/\R (Its z) H1
theorem Yn {X:Cx} {tg l:Expr} {tl:TE} (hl:PE X l tl):PI X tg l (ae3 tl):=by
 intro pins s σ H R I h
 refine d7 (hl pins s σ H _ I h) fun v s1 ⟨x,H1,I1,r1,q1⟩=>?_
 obtain ⟨z,e,q⟩:=q1
 subst e
 obtain ⟨t,rfl⟩:=r1
 have fp:∀ b∈[s1.heap.objs.size],kJ X pins H1 b:=fun b hb=>by
   have e:b=s1.heap.objs.size:=by simpa using hb
   subst e
   exact I1.Av (Nat.le_refl _) (I1.hok.fresh (Nat.le_refl _))
 cases ha:z.cps.all (·<128)
 . exact wpAny_pyIter_wide ha ⟨s1.heap.objs.size,[s1.heap.objs.size],_,_,H1,rfl,I1.kept (t':=s1.toks) fun b o e=>Heap.get?_push_of_some _ e,Le _ z t,⟨_,Heap.get?_push_size _ rfl,rfl,rfl⟩,fp,q⟩
 . exact wpAny_pyIter_ascii ha ⟨s1.heap.objs.size,[s1.heap.objs.size],_,_,H1,rfl,I1.kept (t':=s1.toks) fun b o e=>Heap.get?_push_of_some _ e,Ld _ z t,⟨_,Heap.get?_push_size _ rfl,rfl,rfl⟩,fp,q⟩
section
variable {X:Cx}
theorem Lf:iD X (compareOp .LtE) (fun x y H Q=>∃ i j,x=.str i/\y=.str j/\Q (.bl (!decide (j.cps.toList<i.cps.toList))) H):=by
 intro pins s σ H x y v u Q I rx ry h
 obtain ⟨i,j,rfl,rfl,q⟩:=h
 obtain ⟨t,rfl⟩:=rx
 obtain ⟨t',rfl⟩:=ry
 exact PySem.P.le_str ⟨.bl _,H,I,rfl,q⟩
theorem Ds {v:Value} {o:Option Int} (p:IsPart v o):∃ l:Option (Int × Tok),v=partValue l/\l.map (·.1)=o:=by
 cases p with
 | none=>exact ⟨none,rfl,rfl⟩
 | int i t=>exact ⟨some (i,t),rfl,rfl⟩
theorem wu:X7 X (fun x lo hi H Q=>∃ z,x=.str z/\z.length<=sizeLine/\Q (.str (Txt.slice z lo hi)) H):=by
 intro pins s σ H x v vl vu lo hi sl Q I rx hs pl pu h
 obtain ⟨z,rfl,hz,q⟩:=h
 obtain ⟨t,rfl⟩:=rx
 obtain ⟨l,e1,f1⟩:=Ds pl
 obtain ⟨u,e2,f2⟩:=Ds pu
 subst e1 e2 f1 f2
 refine ⟨"str",_,F.slot_str_getitem.lookup,typeIs_str _ _ _,wpAny_getItem_str_slice (l:=l) (u:=u) (st:=none) hs rfl ?_⟩
 exact post_val_or_str ⟨Nat.le_trans (Txt.slice_le z _ _) hz,fun t' k=>⟨.str (Txt.slice z _ _),H,I.tok k,⟨t',rfl⟩,q⟩⟩
theorem vJ:∀ {ys:List Str} {us:List Value},Vals (ys.map V.str) us->StrsAre us ys:=by
 intro ys
 induction ys with
 | nil=>intro us r; rw [List.map_nil] at r; cases r; exact .nil
 | cons y ys ih =>
   intro us r
   rw [List.map_cons] at r
   cases r with
   | cons r1 r2 =>
     obtain ⟨t,e⟩:=r1
     subst e
     exact .cons y t (ih r2)
theorem rP:MtR X "str.join" (fun x xs H Q=>∃ (sep:Str) (p:Addr) (ys:List Str),x=.str sep/\xs=[.ref p]/\dw X.K H p (ys.map V.str)/\(ys.map (·.length)).sum+ys.length * sep.length<=16777216/\Q (.str (Txt.join sep ys)) H):=by
 intro pins s σ H x xs v us Q I rx rs h
 obtain ⟨sep,p,ys,rfl,rfl,hq,hz,q⟩:=h
 obtain ⟨t,rfl⟩:=rx
 obtain ⟨u,rfl,ru⟩:=vals1 rs
 cases ru
 obtain ⟨its,r,pl,_⟩:=I.list hq
 exact join_list pl.isList (by simpa using vJ r) hz fun t' k=>⟨.str _,H,I.tok k,⟨t',rfl⟩,q⟩
theorem O9:∀ {bs:List Bool} {us:List Value},Vals (bs.map V.bl) us->LSm.BoolsAre us bs:=by
 intro bs
 induction bs with
 | nil=>intro us r; rw [List.map_nil] at r; cases r; exact .nil
 | cons b bs ih =>
   intro us r
   rw [List.map_cons] at r
   cases r with
   | cons r1 r2 =>
     have e:_=Value.bool b:=r1
     subst e
     exact .cons b (ih r2)
theorem j4 (hc:X.calm=true):gU X (.builtin "all") (fun xs H Q=>∃ (p:Addr) (bs:List Bool),xs=[.ref p]/\dw X.K H p (bs.map V.bl)/\Q (.bl (bs.all id)) H):=by
 intro pins s σ H xs us Q I r h
 obtain ⟨p,bs,rfl,hq,q⟩:=h
 obtain ⟨u,rfl,ru⟩:=vals1 r
 cases ru
 obtain ⟨its,rv,pl,_⟩:=I.list hq
 have hb:=O9 rv
 have hl:=pl.isList
 have hlt:p<s.heap.objs.size:=by obtain ⟨_,e,_⟩:=hl; exact Heap.lt_size e
 refine call_all_walk (wpAny_pyIter_list hl ?_)
 refine ⟨s.heap.objs.size,[s.heap.objs.size,p],[s.heap.objs.size],its.toArray.size,_,_,fun i=>(bs[i]?).getD true,rfl,Walks.list (A:=X.A.in1) (I.ok.hd hc) _ p (Nat.ne_of_lt hlt) its.toArray,
   ⟨⟨_,Heap.get?_push_size _ rfl,rfl,rfl⟩,hl.push _⟩,fun i v s' Q' E' hP hQ=>?_,fun h' tk hk=>?_⟩
 . obtain ⟨b,e,rfl⟩:=hb.get i v (by simpa using hP)
   simp only [e,Option.getD_some] at hQ
   exact wpAny_truthy_bool hQ
 . have e:((List.range its.toArray.size).all fun i=>(bs[i]?).getD true)=bs.all id:=by
     rw [List.size_toArray,hb.length]; exact LSm.range_all bs
   rw [e]
   exact ⟨.bl _,H,I.kept (LSm.kept_iter hk),rfl,q⟩
theorem iU:gU X (.builtin "isinstance") (fun xs H Q=>∃ x n t b,xs=[x,.ty n]/\jJ X.K H x t/\PySem.W.kitOne X.K t (.type n)=some b/\Q (.bl b) H):=by
 intro pins s σ H xs us Q I r h
 obtain ⟨x,n,t,b,rfl,ty,e,q⟩:=h
 obtain ⟨u,w',rfl,rx,ry⟩:=vals2 r
 have ry':w'=Value.type n:=ry
 subst ry'
 exact KY I rx ty e fun tk=>⟨.bl b,H,I.tok tk,rfl,q⟩
mutual
inductive Dp (K:PySem.W.Frag) (H:Hp):V->PyData->Prop
 | non:Dp K H .non .none
 | bl (b:Bool):Dp K H (.bl b) (.bool b)
 | int (i:Int):Dp K H (.int i) (.int i)
 | str (x:Str):Dp K H (.str x) (.str x)
 | lst {a:Addr} {xs:List V} {ds:List PyData}:dw K H a xs->Pa K H xs ds->Dp K H (.ref a) (.list ds)
 | tup {a:Addr} {xs:List V} {ds:List PyData}:bU K H a xs->Pa K H xs ds->Dp K H (.ref a) (.tuple ds)
inductive Pa (K:PySem.W.Frag) (H:Hp):List V->List PyData->Prop
 | nil:Pa K H [] []
 | cons {x:V} {xs:List V} {d:PyData} {ds:List PyData}:Dp K H x d->Pa K H xs ds->Pa K H (x :: xs) (d :: ds)
end
mutual
theorem Dp.reads {pins:List (Addr × Obj)} {σ:St} {H:Hp} {s:Shared} (I:Inv X pins σ H s):∀ {x:V} {d:PyData} {u:Value},Dp X.K H x d->RelV x u->∃ as,Reads s.heap u d as
 | _,_,_,.non,r=>by cases (show _=Value.none from r); exact ⟨_,.none⟩
 | _,_,_,.bl b,r=>by cases (show _=Value.bool b from r); exact ⟨_,.bool b⟩
 | _,_,_,.int i,r=>by obtain ⟨t,rfl⟩:=(show ∃ t,_=Value.int i t from r); exact ⟨_,.int i t⟩
 | _,_,_,.str x,r=>by obtain ⟨t,rfl⟩:=(show ∃ t,_=Value.str x t from r); exact ⟨_,.str x t⟩
 | _,_,_,.lst (a:=a) hq h,r=>by
   cases (show _=Value.ref a from r)
   obtain ⟨its,rv,pl,_⟩:=I.list hq
   obtain ⟨as,q⟩:=Pa.reads I h rv
   obtain ⟨o,ho,hc,n,hd⟩:=pl.isList
   exact ⟨_,.list ho hc hd (by simpa using q)⟩
 | _,_,_,.tup (a:=a) hq h,r=>by
   cases (show _=Value.ref a from r)
   obtain ⟨its,rv,pl,_⟩:=I.tuple hq
   obtain ⟨as,q⟩:=Pa.reads I h rv
   obtain ⟨o,ho,hc,n,hd⟩:=pl
   exact ⟨_,.tuple ho hc hd (by simpa using q)⟩
theorem Pa.reads {pins:List (Addr × Obj)} {σ:St} {H:Hp} {s:Shared} (I:Inv X pins σ H s):∀ {xs:List V} {ds:List PyData} {us:List Value},Pa X.K H xs ds->Vals xs us->∃ as,ReadsAll s.heap us ds as
 | _,_,_,.nil,r=>by cases r; exact ⟨_,.nil⟩
 | _,_,_,.cons h1 h2,r=>by
   cases r with
   | cons r1 r2 =>
     obtain ⟨as,q1⟩:=Dp.reads I h1 r1
     obtain ⟨bs,q2⟩:=Pa.reads I h2 r2
     exact ⟨_,.cons q1 q2⟩
end
def ae4 (K:PySem.W.Frag):R2:=fun x y H Q=>∃ d e,Dp K H x d/\Dp K H y e/\SeqAt.shaped d=true/\SeqAt.shaped e=true/\Q (.bl (PyData.eqv d e)) H
def abt (K:PySem.W.Frag):R2:=fun x y H Q=>∃ d e,Dp K H x d/\Dp K H y e/\SeqAt.shaped d=true/\SeqAt.shaped e=true/\Q (.bl (!PyData.eqv d e)) H
theorem Pb (hu:X.A.units+64<cLine):iD X (compareOp .Eq) (ae4 X.K):=by
 intro pins s σ H x y v u Q I rx ry h
 obtain ⟨d,e,hd,he,sd,se,q⟩:=h
 obtain ⟨as,ra⟩:=hd.reads I rx
 obtain ⟨bs,rb⟩:=he.reads I ry
 exact eq_dataH ra rb sd se hu ⟨.bl _,H,I,rfl,q⟩
theorem Yo (hu:X.A.units+64<cLine):iD X (compareOp .NotEq) (abt X.K):=by
 intro pins s σ H x y v u Q I rx ry h
 obtain ⟨d,e,hd,he,sd,se,q⟩:=h
 obtain ⟨as,ra⟩:=hd.reads I rx
 obtain ⟨bs,rb⟩:=he.reads I ry
 exact ne_dataH ra rb sd se hu ⟨.bl _,H,I,rfl,q⟩
end
end L2
namespace L2
open PySem PySem.Spec PyProof.Rows
section
variable {X:Cx} {a b c:Expr} {ta tb tc:TE} {pos:Pos}
def tV (i:Nat):TE:=fun σ H Q=>match σ[i]? with
 | some (some v)=>Q v H
 | _=>False
theorem pV (i:Nat) {x:Str} {pos:Pos} (hN:X.N[i]?=some x:=by rfl) (hv:Vis X.env.scope x:=by first | exact Or.inl rfl | exact Or.inr (Or.inl rfl) | exact Or.inr (Or.inr rfl)) (hd:(x == ("__debug__" : Str))=false:=by decide)
   (hcd:(x == ("__classdict__" : Str))=false:=by decide):PE X (.Name x pos) (tV i):=by
 intro pins s σ H Q I h
 refine Xo hN hv hd hcd pins s σ H Q I ?_
 unfold tV at h
 cases e:σ[i]? with
 | none=>rw [e] at h; exact h.elim
 | some o =>
   rw [e] at h
   cases o with
   | none=>exact h.elim
   | some v=>exact ⟨v,e,h⟩
def fI (g:Int->Int->V):R2:=fun x y H Q=>match x,y with
 | .int i,.int j=>Q (g i j) H
 | _,_=>False
def Od (C:Int->Int->Prop) (g:Int->Int->V):R2:=fun x y H Q=>match x,y with
 | .int i,.int j=>C i j/\Q (g i j) H
 | _,_=>False
theorem iD.fI {f:Value->Value->Sem Value} {g:Int->Int->V} (h:iD X f (Ov g)):iD X f (fI g):=by
 intro pins s σ H x y v u Q I rx ry q
 refine h pins s σ H x y v u Q I rx ry ?_
 cases x <;> cases y <;> first | exact ⟨_,_,rfl,rfl,q⟩ | exact (show False from q).elim
theorem iD.Od {f:Value->Value->Sem Value} {C:Int->Int->Prop} {g:Int->Int->V} (h:iD X f (rI C g)):iD X f (Od C g):=by
 intro pins s σ H x y v u Q I rx ry q
 refine h pins s σ H x y v u Q I rx ry ?_
 cases x <;> cases y <;> first | exact ⟨_,_,rfl,rfl,q.1,q.2⟩ | exact (show False from q).elim
theorem fZ:iD X (binaryOp .Add) (fI fun i j=>.int (i+j)):=XF.fI
theorem GF:iD X (binaryOp .Sub) (fI fun i j=>.int (i-j)):=XH.fI
theorem Yp:iD X (binaryOp .Mult) (Od Tr fun i j=>.int (i * j)):=XJ.Od
theorem oMod:iD X (binaryOp .Mod) (Od (fun _ j=>0<j) fun i j=>.int (i % j)):=XM.Od
def Ws (_ j:Int):Prop:=0<j/\j<4611686018427387904
theorem Pg:iD X (binaryOp .FloorDiv) (rI Ws fun i j=>.int (i / j)):=opI fun i j _ _ _ _ _ hc q=>by
 have h1:(0:Int)<j:=hc.1
 have h2:j<4611686018427387904:=hc.2
 refine floordiv_int (by omega) (by rw [Int.fdiv_eq_ediv_of_nonneg i (by omega)]; exact q) (.inl (PyProof.noPylong_of_log2 ?_))
 have h3:j.natAbs≠0:=by omega
 have h4:j.natAbs<2 ^ 62:=by omega
 have:=(Nat.log2_lt h3).mpr h4
 omega
theorem oDiv:iD X (binaryOp .FloorDiv) (Od Ws fun i j=>.int (i / j)):=Pg.Od
theorem ae5:iD X (binaryOp .Pow) (Od aa3 fun i j=>.int (i ^ j.toNat)):=XQ.Od
theorem oLt:iD X (compareOp .Lt) (fI fun i j=>.bl (decide (i<j))):=Wm.fI
theorem oLe:iD X (compareOp .LtE) (fI fun i j=>.bl (decide (i<=j))):=aa5.fI
theorem oGt:iD X (compareOp .Gt) (fI fun i j=>.bl (decide (j<i))):=aa6.fI
theorem oGe:iD X (compareOp .GtE) (fI fun i j=>.bl (decide (j<=i))):=aa7.fI
theorem Yq:iD X (compareOp .Eq) (Ov fun i j=>.bl (decide (i=j))):=KQ fun _ _ _ _ _ _ _ q=>eq_int (by rw [Bool.beq_eq_decide_eq]; exact q)
theorem Yr:iD X (compareOp .NotEq) (Ov fun i j=>.bl (!decide (i=j))):=KQ fun _ _ _ _ _ _ _ q=>ne_int (by rw [bne,Bool.beq_eq_decide_eq]; exact q)
theorem oEq:iD X (compareOp .Eq) (fI fun i j=>.bl (decide (i=j))):=Yq.fI
theorem oNe:iD X (compareOp .NotEq) (fI fun i j=>.bl (!decide (i=j))):=Yr.fI
theorem Lg:UnR X (unaryOp .USub) (fun x H Q=>match x with | .int i=>Q (.int (-i)) H | _=>False):=by
 intro pins s σ H x v Q I rx h
 cases x with
 | int i=>obtain ⟨t,rfl⟩:=rx; exact neg_int ⟨.int (-i),H,I.tok _,⟨_,rfl⟩,h⟩
 | _=>exact (show False from h).elim
def fS (g:Str->Str->V):R2:=fun x y H Q=>match x,y with
 | .str i,.str j=>Q (g i j) H
 | _,_=>False
theorem abu:iD X (compareOp .LtE) (fS fun i j=>.bl (!decide (j.cps.toList<i.cps.toList))):=by
 intro pins s σ H x y v u Q I rx ry q
 refine Lf pins s σ H x y v u Q I rx ry ?_
 cases x <;> cases y <;> first | exact ⟨_,_,rfl,rfl,q⟩ | exact (show False from q).elim
def ae6:R2:=fun x y H Q=>match x,y with
 | .str i,.str j=>i.length+j.length<=sizeLine/\Q (.str (i++j)) H
 | _,_=>False
theorem Dt:iD X (binaryOp .Add) ae6:=by
 intro pins s σ H x y v u Q I rx ry q
 refine Gs pins s σ H x y v u Q I rx ry ?_
 cases x <;> cases y <;> first | exact ⟨_,_,rfl,rfl,q.1,q.2⟩ | exact (show False from q).elim
def bF (Q:Bool->Hp->Prop):VK:=fun x H=>match x with
 | .bl k=>Q k H
 | _=>False
def tF (t:TE):TT:=fun σ H Q=>t σ H (bF Q)
theorem Wt {Q:Bool->Hp->Prop} {x:V} {H:Hp} (h:bF Q x H):∃ k,x=.bl k/\Q k H:=by
 cases x with
 | bl k=>exact ⟨k,rfl,h⟩
 | _=>exact (show False from h).elim
theorem pN {op:CmpOp} {r:R2} (ho:iD X (compareOp op) r) (ha:PE X a ta) (hb:PE X b tb) (hm:behindInMarks op b=false):PT X (.Compare a [op] [b] pos) (tF (Jm r ta tb)):=by
 intro pins s σ H Q I h
 refine wpAny_isTrue_Compare1 (d7 (ha pins s σ H _ I h) fun v s1 ⟨x,H1,I1,r1,q1⟩=>d7 (hb pins s1 σ H1 _ I1 q1) fun u s2 ⟨y,H2,I2,r2,q2⟩ =>
   d7 (ho pins s2 σ H2 x y v u _ I2 r1 r2 q2) fun c s3 ⟨z,H3,I3,r3,q3⟩=>?_) hm
 obtain ⟨k,e,q⟩:=Wt q3
 subst e
 cases r3
 exact wpAny_truthy_bool ⟨H3,I3,q⟩
theorem wz {e:Expr} {t:TE} (h:PE X e t) (he:∀ whole,isTrue e X.env whole=(do let v <- whole; standAt e.pos; holding [v] (truthy v)):=by intro _; rfl):PT X e (tF t):=by
 intro pins s σ H Q I hw
 refine isTrue_plain (d7 (h pins s σ H _ I hw) fun v s1 ⟨x,H1,I1,r1,q1⟩=>?_) (he _)
 obtain ⟨d,rfl,q⟩:=Wt q1
 cases r1
 exact wpAny_truthy_bool ⟨H1,I1,q⟩
def abv (r r':R2) (ta tb tc:TE):TE:=fun σ H Q=>ta σ H fun x H1=>tb σ H1 fun y H2=>r x y H2 (bF fun k H3=>if k=true then tc σ H3 fun w' H4=>r' y w' H4 Q else Q (.bl false) H3)
theorem ae7 {op op':CmpOp} {r r':R2} (ho:iD X (compareOp op) r) (ho':iD X (compareOp op') r') (ha:PE X a ta) (hb:PE X b tb) (hc:PE X c tc)
   (hm:lastMarks [op,op'] [b,c]=false:=by with_unfolding_all rfl):PE X (.Compare a [op,op'] [b,c] pos) (abv r r' ta tb tc):=by
 intro pins s σ H Q I h
 refine Compare_chain (d7 (ha pins s σ H _ I h) fun v s1 ⟨x,H1,I1,r1,q1⟩=>chain_link (d7 (hb pins s1 σ H1 _ I1 q1) fun u s2 ⟨y,H2,I2,r2,q2⟩ =>
   d7 (ho pins s2 σ H2 x y v u _ I2 r1 r2 q2) fun d s3 ⟨z,H3,I3,r3,q3⟩=>?_)) hm
 obtain ⟨k,e,q3⟩:=Wt q3
 subst e
 cases r3
 refine wpAny_truthy_bool ?_
 cases k with
 | false=>exact ite_ff ⟨.bl false,H3,I3,rfl,q3⟩
 | true=>exact ite_tt (chain_last (d7 (hc pins s3 σ H3 _ I3 q3) fun w' s4 ⟨z',H4,I4,r4,q4⟩=>ho' pins s4 σ H4 y z' u w' Q I4 r2 r4 q4))
theorem abw {op op':CmpOp} {r r':R2} (ho:iD X (compareOp op) r) (ho':iD X (compareOp op') r') (ha:PE X a ta) (hb:PE X b tb) (hc:PE X c tc)
   (hm:lastMarks [op,op'] [b,c]=false:=by with_unfolding_all rfl):PT X (.Compare a [op,op'] [b,c] pos) (tF (abv r r' ta tb tc)):=by
 intro pins s σ H Q I h
 refine isTrue_chain (d7 (ha pins s σ H _ I h) fun v s1 ⟨x,H1,I1,r1,q1⟩=>test_link (d7 (hb pins s1 σ H1 _ I1 q1) fun u s2 ⟨y,H2,I2,r2,q2⟩ =>
   d7 (ho pins s2 σ H2 x y v u _ I2 r1 r2 q2) fun d s3 ⟨z,H3,I3,r3,q3⟩=>?_)) hm
 obtain ⟨k,e,q3⟩:=Wt q3
 subst e
 cases r3
 refine wpAny_truthy_bool ?_
 cases k with
 | false=>exact ite_ff ⟨H3,I3,q3⟩
 | true =>
   refine ite_tt (test_last (d7 (hc pins s3 σ H3 _ I3 q3) fun w' s4 ⟨z',H4,I4,r4,q4⟩=>d7 (ho' pins s4 σ H4 y z' u w' _ I4 r2 r4 q4) fun d' s5 ⟨z2,H5,I5,r5,q5⟩=>?_))
   obtain ⟨k2,e2,q5⟩:=Wt q5
   subst e2
   cases r5
   exact wpAny_truthy_bool ⟨H5,I5,q5⟩
variable {rest:List Expr}
def abx (ta tb:TE):TE:=fun σ H Q=>ta σ H (bF fun c H1=>if c=true then tb σ H1 Q else Q (.bl false) H1)
def ae8 (ta tb:TE):TE:=fun σ H Q=>ta σ H (bF fun c H1=>if c=true then Q (.bl true) H1 else tb σ H1 Q)
def aby (ta:TE):TE:=fun σ H Q=>ta σ H (bF fun c H1=>Q (.bl (!c)) H1)
theorem oV (ha:PE X a ta) (hb:PE X (.BoolOp .And (b :: rest) pos) tb):PE X (.BoolOp .And (a :: b :: rest) pos) (abx ta tb):=by
 intro pins s σ H Q I h
 refine BoolOp_and (d7 (ha pins s σ H _ I h) fun v s1 ⟨x,H1,I1,r1,q1⟩=>?_)
 obtain ⟨c,rfl,q1⟩:=Wt q1
 cases r1
 refine wpAny_truthy_bool ?_
 cases c with
 | true=>exact hb pins s1 σ H1 Q I1 q1
 | false=>exact ⟨.bl false,H1,I1,rfl,q1⟩
theorem ae9 (ha:PE X a ta) (hb:PE X (.BoolOp .Or (b :: rest) pos) tb):PE X (.BoolOp .Or (a :: b :: rest) pos) (ae8 ta tb):=by
 intro pins s σ H Q I h
 refine BoolOp_or (d7 (ha pins s σ H _ I h) fun v s1 ⟨x,H1,I1,r1,q1⟩=>?_)
 obtain ⟨c,rfl,q1⟩:=Wt q1
 cases r1
 refine wpAny_truthy_bool ?_
 cases c with
 | false=>exact hb pins s1 σ H1 Q I1 q1
 | true=>exact ⟨.bl true,H1,I1,rfl,q1⟩
theorem abz (ha:PE X a ta):PE X (.UnaryOp .Not a pos) (aby ta):=by
 intro pins s σ H Q I h
 refine UnaryOp_ (d7 (ha pins s σ H _ I h) fun v s1 ⟨x,H1,I1,r1,q1⟩=>?_)
 obtain ⟨c,rfl,q1⟩:=Wt q1
 cases r1
 exact not_of (wpAny_truthy_bool ⟨.bl (!c),H1,I1,rfl,q1⟩)
end
end L2
namespace L2
open PySem PySem.Spec PyProof.Rows
def Nx (n i:Nat) (Pv:Nat->Hp->Prop) (H:Hp):Prop:=∃ m',m'<n-i/\(m'=n-(i+1)/\i+1<=n/\Pv (i+1) H)
theorem nx {n i:Nat} {Pv:Nat->Hp->Prop} {H:Hp} (hi:i<n) (h:Pv (i+1) H):Nx n i Pv H:=⟨n-(i+1),by omega,rfl,hi,h⟩
section
variable {g:BI->TG} {tt:BI->TT} {te:BI->TE} {σ0:St} {D:Addr} {End:Hp->Prop} {H1:Hp}
theorem rQ {J:It} (n:Nat) (Pv:Nat->Hp->Prop) (h0:Pv 0 (upd H1 D (.lst []))) (stop:∀ H,Pv n H->J.stop n H/\End H)
   (turn:∀ i H,i<n->Pv i H->J.go i H/\∀ x H',J.Oq i H x H'->∀ b,g b x σ0 H' fun σ2 H2=>tt b σ2 H2 fun c H3=>if c=true then qm D (te b) σ2 H3 (Nx n i Pv) else Nx n i Pv H3) :
   ∃ W:Nat->Nat->Hp->Prop,(∃ m,W 0 m (upd H1 D (.lst [])))/\∀ b,oU J (g b) (tt b) (qm D (te b)) σ0 End W:=by
 refine ⟨fun i m H=>m=n-i/\i<=n/\Pv i H,⟨n,rfl,Nat.zero_le _,h0⟩,fun b i m H ⟨hm,hi,p⟩=>?_⟩
 subst hm
 by_cases hlt:i<n
 . exact .inr ⟨(turn i H hlt p).1,fun x H' y=>(turn i H hlt p).2 x H' y b⟩
 . have e:i=n:=by omega
   subst e
   exact .inl (stop H p)
theorem Ph {z:Str} (Pv:Nat->Hp->Prop) (h0:Pv 0 (upd H1 D (.lst []))) (stop:∀ H,Pv z.cps.size H->End H)
   (turn:∀ i c H,z.cps[i]?=some c->i<z.cps.size->Pv i H->∀ b,g b (.str ⟨#[c]⟩) σ0 H fun σ2 H2=>tt b σ2 H2 fun c H3=>if c=true then qm D (te b) σ2 H3 (Nx z.cps.size i Pv) else Nx z.cps.size i Pv H3) :
   ∃ W:Nat->Nat->Hp->Prop,(∃ m,W 0 m (upd H1 D (.lst [])))/\∀ b,oU (Its z) (g b) (tt b) (qm D (te b)) σ0 End W :=
 rQ z.cps.size Pv h0 (fun H p=>⟨Nat.le_refl _,stop H p⟩) fun i H hi p=>⟨hi,fun x H' ⟨e,c,hc,hx⟩ b=>by subst e hx; exact turn i c _ hc hi p b⟩
theorem zH {K:PySem.W.Frag} {a:Addr} {xs:List V} (Pv:Nat->Hp->Prop) (h0:Pv 0 (upd H1 D (.lst []))) (hl:∀ i H,i<=xs.length->Pv i H->dw K H a xs) (stop:∀ H,Pv xs.length H->End H)
   (turn:∀ i x H,xs[i]?=some x->i<xs.length->Pv i H->∀ b,g b x σ0 H fun σ2 H2=>tt b σ2 H2 fun c H3=>if c=true then qm D (te b) σ2 H3 (Nx xs.length i Pv) else Nx xs.length i Pv H3) :
   ∃ W:Nat->Nat->Hp->Prop,(∃ m,W 0 m (upd H1 D (.lst [])))/\∀ b,oU (Wk K a) (g b) (tt b) (qm D (te b)) σ0 End W :=
 rQ xs.length Pv h0 (fun H p=>⟨⟨xs,hl _ H (Nat.le_refl _) p,Nat.le_refl _⟩,stop H p⟩) fun i H hi p =>
   ⟨⟨xs,xs[i],hl i H (Nat.le_of_lt hi) p,by simp [hi]⟩,fun x H' ⟨e,y⟩ b=>by subst e; exact turn i x _ (y xs (hl i _ (Nat.le_of_lt hi) p)) hi p b⟩
theorem rR {K:PySem.W.Frag} {a:Addr} {xs:List V} (Pv:Nat->Hp->Prop) (h0:Pv 0 (upd H1 D (.lst []))) (hl:∀ i H,i<=xs.length->Pv i H->bU K H a xs) (stop:∀ H,Pv xs.length H->End H)
   (turn:∀ i x H,xs[i]?=some x->i<xs.length->Pv i H->∀ b,g b x σ0 H fun σ2 H2=>tt b σ2 H2 fun c H3=>if c=true then qm D (te b) σ2 H3 (Nx xs.length i Pv) else Nx xs.length i Pv H3) :
   ∃ W:Nat->Nat->Hp->Prop,(∃ m,W 0 m (upd H1 D (.lst [])))/\∀ b,oU (Td K a) (g b) (tt b) (qm D (te b)) σ0 End W :=
 rQ xs.length Pv h0 (fun H p=>⟨⟨xs,hl _ H (Nat.le_refl _) p,Nat.le_refl _⟩,stop H p⟩) fun i H hi p =>
   ⟨⟨xs,xs[i],hl i H (Nat.le_of_lt hi) p,by simp [hi]⟩,fun x H' ⟨e,y⟩ b=>by subst e; exact turn i x _ (y xs (hl i _ (Nat.le_of_lt hi) p)) hi p b⟩
theorem qI {lo:Int} {n:Nat} (Pv:Nat->Hp->Prop) (h0:Pv 0 (upd H1 D (.lst []))) (stop:∀ H,Pv n H->End H)
   (turn:∀ i H,i<n->Pv i H->∀ b,g b (.int (lo+i)) σ0 H fun σ2 H2=>tt b σ2 H2 fun c H3=>if c=true then qm D (te b) σ2 H3 (Nx n i Pv) else Nx n i Pv H3) :
   ∃ W:Nat->Nat->Hp->Prop,(∃ m,W 0 m (upd H1 D (.lst [])))/\∀ b,oU (Xz lo n) (g b) (tt b) (qm D (te b)) σ0 End W :=
 rQ n Pv h0 (fun H p=>⟨Nat.le_refl _,stop H p⟩) fun i H hi p=>⟨hi,fun x H' ⟨e,hx⟩ b=>by subst e hx; exact turn i _ hi p b⟩
end
structure eE (H1 H:Hp) (D:Addr) (ys:List V):Prop where
 at':H D=some (.lst ys)
 same:Same H1 H
theorem eE.start {H1:Hp} {D:Addr} (h:H1 D=none):eE H1 (upd H1 D (.lst [])) D []:=⟨ao,fun b o e=>by rw [aL (aM e h)]; exact e⟩
theorem eE.put {H1 H:Hp} {D:Addr} {ys:List V} (h:H1 D=none) (G:eE H1 H D ys) (y:V):eE H1 (upd H D (.lst (ys++[y]))) D (ys++[y]):=⟨ao,fun b o e=>by rw [aL (aM e h)]; exact G.same b o e⟩
theorem Same.upd {H H1:Hp} {p:Addr} {o:HO} (s:Same H H1) (h:H1 p=none):Same H (upd H1 p o):=fun b u e=>by rw [aL (aM (s b u e) h)]; exact s b u e
theorem Same.tup {K:PySem.W.Frag} {H H':Hp} {a:Addr} {xs:List V} (e:Same H H') (h:bU K H a xs):bU K H' a xs:=by
 rcases h with (h | ⟨o,h⟩) | h
 . exact .inl (.inl (e _ _ h))
 . exact .inl (.inr ⟨o,e _ _ h⟩)
 . exact .inr h
def Bh (T n:String):Bool:=T == n || (T == "bool" && n == "int")
theorem yU {K:PySem.W.Frag} {H:Hp} {x:V} {T:String} (h:jJ K H x (.type T)):PySem.W.kitOne K (.type T) (.type "int")=some (Bh T "int")/\PySem.W.kitOne K (.type T) (.type "bool")=some (Bh T "bool")/\PySem.W.kitOne K (.type T) (.type "str")=some (Bh T "str")/\PySem.W.kitOne K (.type T) (.type "tuple")=some (Bh T "tuple"):=by
 cases h <;> exact ⟨rfl,rfl,rfl,rfl⟩
end L2
namespace L2
open PySem PySem.Spec PyProof.Rows
section
variable {X:Cx} {a b:Expr} {tA Oa:TT} {rest:List Expr} {pos:Pos}
theorem tX (ha:PT X a tA) (hb:PW X (.BoolOp .Or (b :: rest) pos) Oa):PT X (.BoolOp .Or (a :: b :: rest) pos) (tOr tA Oa):=(pw_or ha hb).pt
theorem wA (ha:PT X a tA) (hb:PW X (.BoolOp .And (b :: rest) pos) Oa):PT X (.BoolOp .And (a :: b :: rest) pos) (Xq tA Oa):=(pw_and ha hb).pt
end
theorem lt1 {a b:Nat}:([a]<[b])↔a<b:=by simp [List.cons_lt_cons_iff]
end L2
namespace L2
open PySem PySem.Spec PyProof.Rows
theorem Pj {α β:Type} {f:α->β} {l:List α} {i:Nat} {c:α} (h:l[i]?=some c):(l.take (i+1)).map f=(l.take i).map f++[f c]:=by
 rw [List.take_add_one,h,List.map_append]; rfl
theorem take_all {α β:Type} {f:α->β} {l:List α} {n:Nat} (h:l.length<=n):(l.take n).map f=l.map f:=by rw [List.take_of_length_le h]
theorem Du {α β:Type} {f:α->β} {l:List α} {i m:Nat} (h:i<m) (hm:m<=sizeLine):((l.take i).map f).length<sizeLine:=by
 rw [List.length_map,List.length_take]; omega
theorem T6 {z:Str} {i c:Nat} (h:z.cps[i]?=some c):z.cps.toList[i]?=some c:=by simpa using h
end L2
namespace L2
open PySem PySem.Spec PyProof.Rows
def bG (p:Addr) (H H':Hp):Prop:=∀ b o,b≠p->H b=some o->H' b=some o
theorem bG.of {p:Addr} {H H':Hp} (s:Same H H'):bG p H H':=fun b o _ e=>s b o e
theorem bG.trans {p:Addr} {H H1 H2:Hp} (a:bG p H H1) (b:bG p H1 H2):bG p H H2:=fun c o n e=>b c o n (a c o n e)
theorem bG.upd {p:Addr} {H H1:Hp} {o:HO} (a:bG p H H1):bG p H (upd H1 p o):=fun c u n e=>by rw [aL n]; exact a c u n e
theorem bG.new {p q:Addr} {H H1:Hp} {o:HO} (a:bG p H H1) (h:H1 q=none):bG p H (L2.upd H1 q o):=fun c u n e=>by rw [aL (aM (a c u n e) h)]; exact a c u n e
structure IxA (K:PySem.W.Frag) (x y:V) (H:Hp) (Q:VK):Prop where
 h:abf K x y H Q
theorem vK {X:Cx}:Wo X (IxA X.K):=fun a b pins s σ H x y v u Q I rx ry h hs=>TQ a b pins s σ H x y v u Q I rx ry h.h hs
theorem j5 {K:PySem.W.Frag} {H:Hp} {p:Addr} {xs:List V} {i:Int} {v:V} {Q:VK} (h:H p=some (.lst xs)) (e:Ay xs i=some v) (q:Q v H):IxA K (.ref p) (.int i) H Q:=⟨p,xs,i,v,rfl,rfl,dw.of h,e,q⟩
theorem abA {K:PySem.W.Frag} {H:Hp} {p:Addr} {xs:List V} {i:Int} {v:V} {Q:VK} (h:dw K H p xs) (e:Ay xs i=some v) (q:Q v H):IxA K (.ref p) (.int i) H Q:=⟨p,xs,i,v,rfl,rfl,h,e,q⟩
structure IxT (K:PySem.W.Frag) (x y:V) (H:Hp) (Q:VK):Prop where
 h:abg K x y H Q
theorem iV {X:Cx}:Wo X (IxT X.K):=fun a b pins s σ H x y v u Q I rx ry h hs=>Yb a b pins s σ H x y v u Q I rx ry h.h hs
theorem eG {K:PySem.W.Frag} {H:Hp} {p:Addr} {xs:List V} {i:Int} {v:V} {Q:VK} (h:bU K H p xs) (e:Ay xs i=some v) (q:Q v H):IxT K (.ref p) (.int i) H Q:=⟨p,xs,i,v,rfl,rfl,h,e,q⟩
structure IxS (x y:V) (H:Hp) (Q:VK):Prop where
 h:abh x y H Q
theorem Ys {X:Cx}:Wo X IxS:=fun a b pins s σ H x y v u Q I rx ry h hs=>Yc a b pins s σ H x y v u Q I rx ry h.h hs
theorem Pk {H:Hp} {z:Str} {i:Int} {c:Nat} {Q:VK} (hz:z.length<=sizeLine) (e:Ay z.cps.toList i=some c) (q:Q (.str ⟨#[c]⟩) H):IxS (.str z) (.int i) H Q:=⟨z,i,c,rfl,rfl,hz,e,q⟩
structure abB (o i v:V) (H:Hp) (Q:Hp->Prop):Prop where
 h:Wq o i v H Q
theorem afb {X:Cx}:Xw X abB:=fun pins s σ H o i v ov iv u Q I ro ri rv h=>set_list pins s σ H o i v ov iv u Q I ro ri rv h.h
theorem setAt {H:Hp} {p:Addr} {xs:List V} {i:Int} {j:Nat} {v:V} {Q:Hp->Prop} (h:H p=some (.lst xs)) (e:TF xs.length i=some j) (q:Q (upd H p (.lst (xs.set j v)))):abB (.ref p) (.int i) v H Q:=⟨p,xs,i,j,rfl,rfl,h,e,q⟩
end L2
namespace L2
open PySem PySem.Spec PyProof.Rows
def Pn (z:Str) (lo hi:Option Int):Str:=⟨((z.cps.toList.drop (HT.fG z.length 0 lo)).take (HT.fG z.length z.length hi-HT.fG z.length 0 lo)).toArray⟩
theorem Yt (lo hi:Option Int) (n:Nat):Builtin.Str.strSliceIndices lo hi 1 n=(List.range (HT.fG n n hi-HT.fG n 0 lo)).map (HT.fG n 0 lo+·):=by
 have a:∀ (v:Option Int) (d:Nat),d<=n->(match v with | none=>(d:Int) | some i=>(let i:=if i<0 then i+(n:Int) else i; max 0 (min i (n:Int))))=((HT.fG n d v:Nat):Int):=fun v d hd=>by
   cases v with
   | none=>rfl
   | some i =>
     show max 0 (min (if i<0 then i+(n:Int) else i) (n:Int))=((if i<0 then (i+(n:Int)).toNat else min i.toNat n:Nat):Int)
     by_cases h:i<0
     . rw [if_pos h,if_pos h]; omega
     . rw [if_neg h,if_neg h]; omega
 rw [<- sliceRange_one]
 unfold Builtin.Str.strSliceIndices
 have h1:=a lo 0 (Nat.zero_le _)
 have h2:=a hi n (Nat.le_refl _)
 simp only [show (1:Int) > 0 by decide,if_true] at h1 h2 ⊢
 rw [<- h1,<- h2]
 rfl
theorem wB (z:Str) (lo hi:Option Int):Txt.slice z lo hi=Pn z lo hi:=by
 unfold Txt.slice Pn
 rw [Yt,pick_run]
 split
 . rename_i h
   have e:HT.fG z.length z.length hi-HT.fG z.length 0 lo=z.length:=by simpa using h
   have b:HT.fG z.length z.length hi<=z.length:=by
     unfold HT.fG
     cases hi with
     | none=>exact Nat.le_refl _
     | some v=>simp only; split <;> omega
   by_cases h0:z.length=0
   . have e0:z.cps.toList=[]:=by
       apply List.eq_nil_of_length_eq_zero
       simpa [Str.length] using h0
     cases z with
     | mk cps =>
       have e1:cps=#[]:=by simpa using e0
       subst e1
       simp
   . have e1:HT.fG z.length 0 lo=0:=by omega
     rw [e1,Nat.sub_zero,show HT.fG z.length z.length hi=z.length by omega,List.drop_zero,List.take_of_length_le (by simp [Str.length])]
 . rfl
theorem Pq (z:Str) (k:Nat):Txt.slice z none (some (k:Int))=⟨(z.cps.toList.take k).toArray⟩:=by
 rw [wB]
 unfold Pn
 rw [HT.jz,HT.gZ,List.drop_zero,Nat.sub_zero]
 congr 2
 rw [List.take_eq_take_iff]
 simp [Str.length]
 try omega
theorem Lh (z:Str) (i k:Nat):Txt.slice z (some (i:Int)) (some (k:Int))=⟨((z.cps.toList.take k).drop i).toArray⟩:=by
 rw [wB]
 unfold Pn
 rw [HT.gZ,HT.gZ,List.drop_take]
 have el:z.cps.toList.length=z.length:=by simp [Str.length]
 congr 1
 by_cases h:i<=z.length
 . rw [Nat.min_eq_left h]
   congr 1
   rw [List.take_eq_take_iff,List.length_drop,el]
   omega
 . rw [List.drop_of_length_le (show z.cps.toList.length<=min i z.length by omega),List.drop_of_length_le (show z.cps.toList.length<=i by omega)]
   simp
end L2
namespace L2
open PySem PySem.Spec PyProof.Rows
def wC (t:TE):TO:=fun σ H Q=>t σ H fun x H1=>match x with
 | .int i=>Q (some i) H1
 | _=>False
theorem yQ {X:Cx} {e:Expr} {te:TE} (h:PE X e te):PO X (some e) (wC te):=by
 intro pins s σ H Q I hw
 rw [evalPart_some]
 refine d7 (h pins s σ H _ I hw) fun u s1 ⟨x,H1,I1,r1,q1⟩=>?_
 cases x with
 | int i=>obtain ⟨t,rfl⟩:=r1; exact ⟨some i,H1,I1,.int i t,q1⟩
 | _=>exact (show False from q1).elim
structure SlS (x:V) (lo hi:Option Int) (H:Hp) (Q:VK):Prop where
 h:∃ z,x=.str z/\z.length<=sizeLine/\Q (.str (Txt.slice z lo hi)) H
theorem T7 {X:Cx}:X7 X SlS:=fun pins s σ H x v vl vu lo hi sl Q I rx hs pl pu h=>wu pins s σ H x v vl vu lo hi sl Q I rx hs pl pu h.h
theorem JD {z:Str} {lo hi:Option Int} {H:Hp} {Q:VK} (hz:z.length<=sizeLine) (q:Q (.str (Txt.slice z lo hi)) H):SlS (.str z) lo hi H Q:=⟨z,rfl,hz,q⟩
theorem app_list (a b:Str):(a++b).cps.toList=a.cps.toList++b.cps.toList:=by
 show (a.cps++b.cps).toList=_
 simp
theorem bI (a b:Str):(a++b).length=a.length+b.length:=by
 show (a.cps++b.cps).size=_
 simp [Str.length]
theorem len_list (a:Str):a.cps.toList.length=a.length:=by simp [Str.length]
end L2
namespace L2
open PySem PySem.Spec PyProof.Rows
abbrev vD:=St->Hp->(St->Hp->Prop)->Prop
def CT (J:It) (g:TG) (tt:TT) (act:vD) (End:St->Hp->Prop) (W:Nat->Nat->St->Hp->Prop):Prop :=
 ∀ i m σ H,W i m σ H->(J.stop i H/\End σ H)∨(J.go i H/\∀ x H',J.Oq i H x H'->g x σ H' fun σ2 H2=>tt σ2 H2 fun b H3 =>
   if b=true then act σ2 H3 fun σ4 H4=>∃ m',m'<m/\W (i+1) m' σ4 H4 else ∃ m',m'<m/\W (i+1) m' σ2 H3)
def Li (X:Cx) (tail:Sem Unit) (act:vD):Prop :=
 ∀ (pins:List (Addr × Obj)) (s:Shared) (σ:St) (H:Hp) (R:St->Hp->Prop),Inv X pins σ H s->act σ H R ->
   wpAny (model X.prog X.w) X.A tail (fun _ s'=>∃ σ' H',Inv X pins σ' H' s'/\R σ' H') (fun _ _=>False) s
def u0 (p:Pos) (tg:Expr) (ifs:List Expr) (env:Env) (it:Value) (tail:Sem Unit) (c:Code):Sem Fin:=do
 standAt p
 match <- pyNext it with
 | none=>pure (.done .next)
 | some v =>
   letOwnedTupleGo tg it v
   assign tg env v
   let mut ok:=true
   for c in ifs do
     if ok then ok <- isTrue c env (eval c env)
   if ok then tail
   again c
theorem Wu {X:Cx} {e:Expr} {depth:Nat} {acc:Value} {p:Pos} {tg:Expr} {ifs:List Expr} {tail:Sem Unit} {J:It} {fp:List Addr} {it:Addr} {tn:Nat->Heap->Prop} {g:TG} {tt:TT} {act:vD} {End:St->Hp->Prop} {W:Nat->Nat->St->Hp->Prop} {m0:Nat}
   {pins:List (Addr × Obj)} {σ:St} {H:Hp} {s:Shared} (hq:(Code.compLoop e depth (.ref it) acc X.env).quiet=true)
   (hden:∀ (Q:Fin->Shared->Prop) (E:Value->Shared->Prop) (s:Shared),wpAny (model X.prog X.w) X.A (u0 p tg ifs X.env (.ref it) tail (.compLoop e depth (.ref it) acc X.env)) Q (notedBy (model X.prog X.w) X.A X.env E) s ->
     wpAny (model X.prog X.w) (X.A.under (.compLoop e depth (.ref it) acc X.env)) ((model X.prog X.w).den (.compLoop e depth (.ref it) acc X.env)) Q E s)
   (Oe:∀ v s,X.xe v s->False) (hc:X.calm=true) (T:Turn X.prog X.w X.K tg J fp it tn) (hf:∀ b∈fp,kJ X pins H b) (I:Inv X pins σ H s) (st:tn 0 s.heap) (hg:PG X tg g) (ht:La X ifs tt) (ha:Li X tail act)
   (hW:CT J g tt act End W) (w0:W 0 m0 σ H) :
   codeAny (model X.prog X.w) X.A (.compLoop e depth (.ref it) acc X.env) (fun r s'=>∃ σ' H',r=.ok .next/\Inv X pins σ' H' s'/\End σ' H') s:=by
 have stat:∀ {H':Hp},(∀ b∈fp,H' b=none)->∀ b∈fp,kJ X pins H' b:=fun hn b hb=>⟨hn b hb,(hf b hb).2⟩
 refine codeAny_loop hq (fun n s'=>∃ i σ' H',Inv X pins σ' H' s'/\tn i s'.heap/\(∀ b∈fp,H' b=none)/\W i n σ' H') ?_ m0 ⟨0,σ,H,I,st,fun b hb=>(hf b hb).1,w0⟩
 rintro n s3 ⟨i,σ3,H3,I3,st3,XC,w3⟩
 refine hden _ _ _ ?_
 unfold u0
 rcases hW i n σ3 H3 w3 with ⟨stop,qe⟩ | ⟨go,step⟩
 . refine wpAny_bind (wpAny_standAt (wpAny_bind (d7 (T.done X rfl rfl rfl hc i pins s3 _ H3 _ I3 (stat XC) st3 stop) fun r s5 ⟨hr,I5⟩=>?_)))
   subst hr
   exact wpAny_pure ⟨σ3,H3,rfl,I5,qe⟩
 . refine wpAny_bind (wpAny_standAt (wpAny_bind (d7 (T.item X rfl rfl rfl hc i pins s3 _ H3 _ I3 (stat XC) st3 go) fun r s5 ⟨u,hr,h5⟩=>?_)))
   subst hr
   refine wpAny_bind (d7 h5 fun _ s6 ⟨x,H6,I6,r6,y6,Ym,fr6⟩=>?_)
   have I6':=I6.pinned (stat fr6) (T.obj _ _ Ym)
   refine wpAny_bind (wpAny_mono (hg _ s6 _ H6 x u _ I6' r6 (step x H6 y6)) (fun _ s7 ⟨σ7,H7,I7,q7⟩=>?_) fun v s' f=>(Oe v s' f).elim)
   refine wpAny_bind (wpAny_mono (ht _ s7 σ7 H7 _ I7 q7) (fun ok s8 ⟨H8,I8,q8⟩=>?_) fun v s' f=>(Oe v s' f).elim)
   have again:∀ {σ9:St} {H9:Hp} {s9:Shared} {m':Nat},Inv X (pins++tM fp s6.heap) σ9 H9 s9->m'<n->W (i+1) m' σ9 H9 ->
       ∃ m,m<n/\∃ i σ' H',Inv X pins σ' H' s9/\tn i s9.heap/\(∀ b∈fp,H' b=none)/\W i m σ' H':=fun {σ9 H9 s9 m'} I9 hm w9=>by
     refine ⟨m',hm,i+1,σ9,H9,I9.oK,T.keep _ _ _ Ym fun b hb o e=>(I9.pin (b,o) (List.mem_append_right _ (List.mem_append_right _ (jh hb e)))).1,fun b hb=>?_,w9⟩
     obtain ⟨o,e,d⟩:=T.obj _ _ Ym b hb
     exact (I9.pin (b,o) (List.mem_append_right _ (List.mem_append_right _ (jh hb e)))).2.1
   cases ok with
   | false =>
     obtain ⟨m',hm,w9⟩:=q8
     exact wpAny_pure ⟨rfl,again I8 hm w9⟩
   | true =>
     refine wpAny_bind (wpAny_mono (ha _ s8 σ7 H8 _ I8 q8) (fun _ s9 ⟨σ9,H9,I9,m',hm,w9⟩=>?_) fun _ _ f=>f.elim)
     exact wpAny_pure ⟨rfl,again I9 hm w9⟩
def Wv (D:Addr) (te:TE):vD:=fun σ H R=>te σ H fun y H4=>∃ zs,H4 D=some (.lst zs)/\zs.length<sizeLine/\R σ (upd H4 D (.lst (zs++[y])))
def aIn (wi:TI) (g:TG) (tt:TT) (act:vD):vD:=fun σ H R=>wi σ H fun J H1=>∃ W:Nat->Nat->St->Hp->Prop,(∃ m,W 0 m σ H1)/\CT J g tt act R W
section
variable {X:Cx} {elt kx vx iter tg:Expr} {te tk tv:TE} {D:Addr} {wi:TI} {g:TG} {tt:TT} {act:vD} {ifs:List Expr} {scope:Scope} {pos:Pos}
theorem Pr (Oe:∀ v s,X.xe v s->False) (he:PE X elt te):Li X (do let _ <- call (.builtin "list.append") [.ref D,<- eval elt X.env]) (Wv D te):=by
 intro pins s σ H R I h
 refine wpAny_bind (wpAny_mono (he _ s σ H _ I h) (fun y s9 ⟨v,H9,I9,r9,zs,hD,hz,w9⟩=>?_) fun v s' f=>(Oe v s' f).elim)
 refine wpAny_bind (wpAny_mono (ji (X:=X) _ s9 σ H9 (.ref D) [v] (.ref D) [y] (fun _ H'=>R σ H') I9 rfl (.cons r9 .nil) ⟨D,zs,v,rfl,rfl,hD,hz,w9⟩) (fun _ Ob ⟨_,Oc,I10,_,q⟩=>?_) fun v s' f=>(Oe v s' f).elim)
 exact wpAny_pure ⟨σ,Oc,I10,q⟩
theorem Lj {pins:List (Addr × Obj)} {σ:St} {H H':Hp} {s:Shared} {a:Addr} {y v:V} {u r:Value} {A:Around} {E:Value->Shared->Prop} {Q:Unit->Shared->Prop} (I:Inv X pins σ H s) {kvs:List (Key × V)} {k:Key} (e:H a=some (.dK kvs)) (ey:y=kV k)
   (l:kvs.length<sizeLine) (eH:H'=upd H a (.dK (putK kvs k v))) (ry:RelV y u) (rv:RelV v r) (h:∀ s',Inv X pins σ H' s'->Q () s'):wpAny (model X.prog X.w) A (dictSet a u r) Q E s:=by
 subst ey eH
 obtain ⟨z,hd,vs,rel,dd⟩:=Dl I.hok e
 have hz:vs.length<=sizeLine:=by rw [<- rel.length]; exact z
 have hl:(putK kvs k v).length<=sizeLine:=by have:=gB kvs k v; omega
 refine wpAny_dictSet_pairs (hsz:=hz) (zA ry) dd fun h' Yh hs=>h _ ?_
 have he:∃ q,h'.get? a=some q:=let ⟨q,_,_,hq,_⟩:=Yh; ⟨q,hq⟩
 exact vH I (by rw [e]; exact True.intro) hs he (GC hl hd (rel.put k rv) Yh)
def Pu (D:Addr) (tk tv:TE):vD:=fun σ H R=>tk σ H fun k H1=>tv σ H1 fun v H2=>∃ kvs kk,H2 D=some (.dK kvs)/\k=kV kk/\kvs.length<sizeLine/\R σ (upd H2 D (.dK (putK kvs kk v)))
theorem Lk (Oe:∀ v s,X.xe v s->False) (hk:PE X kx tk) (hv:PE X vx tv):Li X (do
   let kv <- eval kx X.env
   let vv <- holding [kv] (eval vx X.env)
   standAt { kx.pos with endLine:=vx.pos.endLine,endCol:=vx.pos.endCol }
   holding [kv,vv] (dictSet D kv vv)) (Pu D tk tv):=by
 intro pins s σ H R I h
 refine wpAny_bind (wpAny_mono (hk _ s σ H _ I h) (fun y s1 ⟨k,H1,I1,r1,q1⟩=>?_) fun v s' f=>(Oe v s' f).elim)
 refine wpAny_bind (wpAny_holding (wpAny_mono (hv _ s1 σ H1 _ I1 q1) (fun z s2 ⟨v,H2,I2,r2,kvs,kk,hD,ek,hl,q⟩=>?_) fun v s' f=>(Oe v s' f).elim))
 refine wpAny_bind (wpAny_standAt (wpAny_holding ?_))
 exact Lj I2 hD ek hl rfl r1 r2 fun s' I'=>⟨σ,_,I',q⟩
end
end L2
namespace L2
open PySem PySem.Spec PyProof.Rows
theorem JF {X:Cx} {e:Expr} {acc:Value} {p:Pos} {iter tg:Expr} {ifs:List Expr} {tail:Sem Unit} {wi:TI} {g:TG} {tt:TT} {act:vD}
   (hq:∀ it,(Code.compLoop e 1 (.ref it) acc X.env).quiet=true)
   (hden:∀ (it:Addr) (Q:Fin->Shared->Prop) (E:Value->Shared->Prop) (s:Shared),wpAny (model X.prog X.w) X.A (u0 p tg ifs X.env (.ref it) tail (.compLoop e 1 (.ref it) acc X.env)) Q (notedBy (model X.prog X.w) X.A X.env E) s ->
     wpAny (model X.prog X.w) (X.A.under (.compLoop e 1 (.ref it) acc X.env)) ((model X.prog X.w).den (.compLoop e 1 (.ref it) acc X.env)) Q E s)
   (hst:∀ (it:Addr) (R:Result->Shared->Prop) (s:Shared),codeAny (model X.prog X.w) X.A (.compLoop e 1 (.ref it) acc X.env) R s ->
     (∀ Q E,Q (.ref it) s->wpAny (model X.prog X.w) X.A (pyIter (.ref it)) Q E s)->codeAny (model X.prog X.w) X.A (.compStart e 1 (.ref it) acc X.env) R s)
   (Oe:∀ v s,X.xe v s->False) (hc:X.calm=true) (hi:PI X tg iter wi) (hg:PG X tg g) (ht:La X ifs tt) (ha:Li X tail act) (hs:∀ x,foldedSetIterable iter X.env x=pure x:=by intro _; rfl) :
   Li X (do
     let x <- eval iter X.env
     standAt iter.pos
     let x <- foldedSetIterable iter X.env x
     let _ <- runOwn (.compStart e 1 (<- holding [x] (pyIter x)) acc X.env) X.env) (aIn wi g tt act):=by
 intro pins s σ H R I h
 refine wpAny_bind (wpAny_mono (hi pins s σ H _ I h) (fun v s1 h1=>?_) fun v s' f=>(Oe v s' f).elim)
 refine wpAny_bind (wpAny_standAt (wpAny_bind ?_))
 rw [hs]
 refine wpAny_pure (wpAny_bind (wpAny_holding (wpAny_mono h1 (fun itv s2 h2=>?_) fun v s' f=>(Oe v s' f).elim)))
 obtain ⟨it,fp,tn,J,H2,rfl,I2,T,st2,f2,W,⟨m0,w0⟩,hW⟩:=h2
 have loop:=Wu (p:=p) (hq it) (hden it) Oe hc T f2 I2 st2 hg ht ha hW w0
 refine wpAny_bind (wpAny_runOwn (codeAny_mono (hst it _ _ loop fun Q E q=>T.self _ 0 _ _ _ st2 q) fun r s' ⟨σ',H',hr,I',q⟩=>?_))
 subst hr
 exact wpAny_pure ⟨σ',H',I',q⟩
end L2
namespace L2
open PySem PySem.Spec PyProof.Rows
def GJ (own:List Str) (ix:List Nat) (o0:HO) (wi:TI) (g:BI->TG) (tt:BI->TT) (act:BI->Addr->vD):TE:=fun σ H Q=>wi σ H fun J H1=>∀ D,H1 D=none ->
 ∃ W:Nat->Nat->St->Hp->Prop,(∃ m,W 0 m (Jx own ix σ) (upd H1 D o0))/\∀ b,CT J (g b) (tt b) (act b D) (fun _ H'=>Q (.ref D) H') W
section
variable {X:Cx} {e tg iter:Expr} {ifs:List Expr} {gs:List Comprehension} {scope gW:Scope} {pos:Pos} {own cap:List Str} {ix:List Nat} {wi:TI} {g:BI->TG} {tt:BI->TT} {act:BI->Addr->vD} {tail:Addr->Env->Sem Unit} {newAcc:Sem Value} {ob:Obj} {o0:HO} {p:Pos}
structure Dv (X:Cx) (e:Expr) (depth:Nat) (p:Pos) (tg:Expr) (ifs:List Expr) (tail:Addr->Env->Sem Unit):Prop where
 hq:∀ it D env,(Code.compLoop e depth (.ref it) (.ref D) env).quiet=true
 hden:∀ (it D:Addr) (env:Env) (Q:Fin->Shared->Prop) (E:Value->Shared->Prop) (s:Shared),wpAny (model X.prog X.w) X.A (u0 p tg ifs env (.ref it) (tail D env) (.compLoop e depth (.ref it) (.ref D) env)) Q (notedBy (model X.prog X.w) X.A env E) s ->
     wpAny (model X.prog X.w) (X.A.under (.compLoop e depth (.ref it) (.ref D) env)) ((model X.prog X.w).den (.compLoop e depth (.ref it) (.ref D) env)) Q E s
 hst:∀ (it D:Addr) (env:Env) (R:Result->Shared->Prop) (s:Shared),codeAny (model X.prog X.w) X.A (.compLoop e depth (.ref it) (.ref D) env) R s ->
     (∀ Q E,Q (.ref it) s->wpAny (model X.prog X.w) X.A (pyIter (.ref it)) Q E s)->codeAny (model X.prog X.w) X.A (.compStart e depth (.ref it) (.ref D) env) R s
theorem u5 {pins:List (Addr × Obj)} {σ:St} {H:Hp} {s:Shared} {Q:VK} {use:Option (Value->Sem Unit)} {Q':Value->Shared->Prop} (hcl:clausesOf e=⟨tg,iter,ifs,0⟩ :: gs) (C0:Dv X e 0 p tg ifs tail)
   (hnew:∀ (pins:List (Addr × Obj)) (σ:St) (H:Hp) (s:Shared) (Q:Value->Shared->Prop) (E:Value->Shared->Prop),Inv X pins σ H s->(Inv X pins σ (upd H s.heap.objs.size o0) { s with heap:=s.heap.push ob }->Q (.ref s.heap.objs.size) { s with heap:=s.heap.push ob })->wpAny (model X.prog X.w) X.A newAcc Q E s)
   (hc:X.calm=true) (hX:X.env.scope=gW) (S:tU gW scope X.N own cap ix) (hi:PI X tg iter wi)
   (hg:∀ b,PG (blk X scope (own++cap) b) tg (g b)) (ht:∀ b,La (blk X scope (own++cap) b) ifs (tt b)) (ha:∀ b D,Li (blk X scope (own++cap) b) (tail D (blk X scope (own++cap) b).env) (act b D))
   (hs:∀ x,foldedSetIterable iter X.env x=pure x) (I:Inv X pins σ H s) (h:GJ own ix o0 wi g tt act σ H Q)
   (out:∀ (D C:Addr) (H':Hp) (s':Shared),Q (.ref D) H'->(∃ m,s'.heap.Ns C m)->kJ X pins H' C->(∀ h',Heap.SameBut C s'.heap h'->Inv X pins σ H' { s' with heap:=h' }) ->
     compPost (model X.prog X.w) X.A X.xe use Q' (.ref D) C (.ok .next) s') :
   wpAny (model X.prog X.w) X.A (comprehension e scope X.env pos newAcc false (eval iter X.env) use) Q' X.xe s:=by
 have hclos:=qw (scope:=scope) (env:=X.env) fun y hy hk=>by
   have hf:=S.free y hy hk
   rw [<- hX] at hf
   exact I.ok.has y.1 hf
 refine wpAny_comprehension_free (use:=use) hcl hs hclos S.kind (fun y hy hk=>by rw [S.nm y hy,hk]) (d7 (hi pins s σ H _ I h) fun v s1 h1=>d7 h1 fun itv s2 h2=>?_)
 obtain ⟨it,fp,tn,J,H2,e1,I2,T,st2,f2,hR⟩:=h2
 subst e1
 refine hnew _ _ _ _ _ _ I2 fun I3=>?_
 obtain ⟨W,⟨m0,w0⟩,hW⟩:=hR s2.heap.objs.size I2.fresh
 have Tf:∀ b∈fp,b<s2.heap.objs.size:=fun b hb=>let ⟨_,e,_⟩:=T.obj _ _ st2 b hb; Heap.lt_size e
 have f3:∀ b∈fp,kJ X pins (upd H2 s2.heap.objs.size o0) b:=fun b hb=>⟨by rw [aL (Nat.ne_of_lt (Tf b hb))]; exact (f2 b hb).1,(f2 b hb).2⟩
 have st3:tn 0 (s2.heap.push ob):=T.keep _ _ _ st2 fun b hb o e=>Heap.get?_push_of_some _ e
 generalize hs3:({ s2 with heap:=s2.heap.push ob }:Shared)=s3 at I3
 have O8:tn 0 s3.heap:=by rw [<- hs3]; exact st3
 have ob3:∀ b∈fp,∃ o,s3.heap.get? b=some o:=fun b hb=>let ⟨o,e,_⟩:=T.obj _ _ O8 b hb; ⟨o,e⟩
 have I4:=Jz S hX I3 f3 ob3
 have Yl:tn 0 (Yk s3 scope):=T.keep _ _ _ O8 fun b _ o e=>tW s3 scope b o e
 refine wj ?_
 have f4:∀ b∈fp,kJ (blk X scope (own++cap) (vI X pins s3 (upd H2 s2.heap.objs.size o0) scope fp)) [] (upd H2 s2.heap.objs.size o0) b:=fun b hb=>by
   refine ⟨(f3 b hb).1,(I4.ok.exf b hb).1,I4.ok.KC b hb,.inl hb,(I4.ok.exf b hb).2,fun p hp=>?_⟩
   have hp':p∈X.pn++pins:=by
     rcases List.mem_append.mp hp with z | z
     . exact z
     . exact nomatch z
   exact (f3 b hb).2.2.2.2.2 p hp'
 have loop:=Wu (X:=blk X scope (own++cap) (vI X pins s3 (upd H2 s2.heap.objs.size o0) scope fp)) (e:=e) (depth:=0) (acc:=.ref s2.heap.objs.size) (C0.hq _ _ _) (C0.hden _ _ _) (fun _ _ f=>f) hc T f4 I4 Yl (hg _) (ht _) (ha _ _) (hW _) w0
 have fin:codeAny (model X.prog X.w) X.A (.compLoop e 0 (.ref it) (.ref s2.heap.objs.size) (Dq scope (Te X s3 scope) s3.heap.objs.size X.env))
     (compPost (model X.prog X.w) X.A X.xe use Q' (.ref s2.heap.objs.size) s3.heap.objs.size) { s3 with heap:=Yk s3 scope }:=codeAny_mono loop fun r s' ⟨σ',H',hr,J',q⟩=>by
   subst hr
   exact out _ _ H' s' q (let ⟨m,hn,_⟩:=J'.loc; ⟨m,hn⟩) (I3.Av (Nat.le_refl _) J'.free) fun h' hh=>JB I3 f3 J' hh
 exact C0.hst _ _ _ _ _ fin fun Q E q=>T.self _ 0 _ _ _ Yl q
end
section
variable {X:Cx} {elt kx vx tg iter tY iter1:Expr} {ifs jK:List Expr} {scope:Scope} {pos:Pos}
def abC (elt:Expr) (D:Addr) (env:Env):Sem Unit:=do let _ <- call (.builtin "list.append") [.ref D,<- eval elt env]
def tailD (kx vx:Expr) (D:Addr) (env:Env):Sem Unit:=do
   let kv <- eval kx env
   let vv <- holding [kv] (eval vx env)
   standAt { kx.pos with endLine:=vx.pos.endLine,endCol:=vx.pos.endCol }
   holding [kv,vv] (dictSet D kv vv)
def zJ (e iter:Expr) (D:Addr) (env:Env):Sem Unit:=do
     let x <- eval iter env
     standAt iter.pos
     let x <- foldedSetIterable iter env x
     let _ <- runOwn (.compStart e 1 (<- holding [x] (pyIter x)) (.ref D) env) env
theorem Yu (it:Value) (D:Addr) (env:Env):compTurn (.ListComp elt [⟨tg,iter,ifs,0⟩,⟨tY,iter1,jK,0⟩] scope pos) 0 it (.ref D) env=u0 iter.pos tg ifs env it (zJ (.ListComp elt [⟨tg,iter,ifs,0⟩,⟨tY,iter1,jK,0⟩] scope pos) iter1 D env) (.compLoop (.ListComp elt [⟨tg,iter,ifs,0⟩,⟨tY,iter1,jK,0⟩] scope pos) 0 it (.ref D) env):=by
 unfold compTurn u0 zJ
 simp only [List.getElem?_cons_zero,List.getElem?_cons_succ,bne_self_eq_false,Bool.false_eq_true,if_false,bind_assoc,pure_bind]
 rfl
theorem Yv (it:Value) (D:Addr) (env:Env):compTurn (.DictComp kx vx [⟨tg,iter,ifs,0⟩,⟨tY,iter1,jK,0⟩] scope pos) 0 it (.ref D) env=u0 iter.pos tg ifs env it (zJ (.DictComp kx vx [⟨tg,iter,ifs,0⟩,⟨tY,iter1,jK,0⟩] scope pos) iter1 D env) (.compLoop (.DictComp kx vx [⟨tg,iter,ifs,0⟩,⟨tY,iter1,jK,0⟩] scope pos) 0 it (.ref D) env):=by
 unfold compTurn u0 zJ
 simp only [List.getElem?_cons_zero,List.getElem?_cons_succ,bne_self_eq_false,Bool.false_eq_true,if_false,bind_assoc,pure_bind]
 rfl
theorem Bj {e:Expr} {d:Nat} {gl:Comprehension} {it acc:Value} {env:Env} {R:Result->Shared->Prop} {s:Shared} (hf:(Code.compStart e d it acc env).isFrame=false) (hg:(clausesOf e)[d]?=some gl) (ha:gl.is_async=0) (hu:∀ A:Around,A.under (.compStart e d it acc env)=A) (hq:(Code.compLoop e d it acc env).quiet=true)
   (hd:(model X.prog X.w).den (.compStart e d it acc env)=(compStart e d it acc env).onRaise (fun x=>do noteFrame x env; standAt theWindowsPlace))
   (h0:codeAny (model X.prog X.w) X.A (.compLoop e d it acc env) R s) (h:∀ Q E,Q it s->wpAny (model X.prog X.w) X.A (pyIter it) Q E s):codeAny (model X.prog X.w) X.A (.compStart e d it acc env) R s:=by
 refine codeAny_of_tree ?_
 rw [hu,hd]
 refine wpAny_notedAt ?_
 unfold compStart
 rw [hg]
 simp only [Option.elim_some,ha]
 refine wpAny_bind (wpAny_askSetting (wpAny_ite ?_))
 split
 . exact wpAny_pure (And.intro hq h0)
 . refine wpAny_bind (wpAny_rule (wpAny_bind (wpAny_standAt (wpAny_bind (h _ _ ?_)))))
   exact wpAny_pure (And.intro hq h0)
theorem Yw:Dv X (.ListComp elt [⟨tg,iter,ifs,0⟩,⟨tY,iter1,jK,0⟩] scope pos) 0 iter.pos tg ifs (zJ (.ListComp elt [⟨tg,iter,ifs,0⟩,⟨tY,iter1,jK,0⟩] scope pos) iter1) where
 hq:=fun _ _ _=>rfl
 hden:=fun it D env Q E s h=>by
   show wpAny _ X.A ((compTurn (.ListComp elt [⟨tg,iter,ifs,0⟩,⟨tY,iter1,jK,0⟩] scope pos) 0 (.ref it) (.ref D) env).onRaise (fun x=>do noteFrame x env; theTreesLotGoes x)) _ _ s
   exact wpAny_noted (by rw [Yu]; exact h)
 hst:=fun it D env R s h0 h=>Bj rfl rfl rfl (fun _=>rfl) rfl rfl h0 h
theorem Bk:Dv X (.ListComp elt [⟨tg,iter,ifs,0⟩,⟨tY,iter1,jK,0⟩] scope pos) 1 iter1.pos tY jK (abC elt) where
 hq:=fun _ _ _=>rfl
 hden:=fun it D env Q E s h=>by
   show wpAny _ X.A ((compTurn (.ListComp elt [⟨tg,iter,ifs,0⟩,⟨tY,iter1,jK,0⟩] scope pos) 1 (.ref it) (.ref D) env).onRaise (fun x=>do noteFrame x env; theTreesLotGoes x)) _ _ s
   exact wpAny_noted h
 hst:=fun it D env R s h0 h=>Bj rfl rfl rfl (fun _=>rfl) rfl rfl h0 h
theorem Yx:Dv X (.DictComp kx vx [⟨tg,iter,ifs,0⟩,⟨tY,iter1,jK,0⟩] scope pos) 0 iter.pos tg ifs (zJ (.DictComp kx vx [⟨tg,iter,ifs,0⟩,⟨tY,iter1,jK,0⟩] scope pos) iter1) where
 hq:=fun _ _ _=>rfl
 hden:=fun it D env Q E s h=>by
   show wpAny _ X.A ((compTurn (.DictComp kx vx [⟨tg,iter,ifs,0⟩,⟨tY,iter1,jK,0⟩] scope pos) 0 (.ref it) (.ref D) env).onRaise (fun x=>do noteFrame x env; theTreesLotGoes x)) _ _ s
   exact wpAny_noted (by rw [Yv]; exact h)
 hst:=fun it D env R s h0 h=>Bj rfl rfl rfl (fun _=>rfl) rfl rfl h0 h
theorem Bl:Dv X (.DictComp kx vx [⟨tg,iter,ifs,0⟩,⟨tY,iter1,jK,0⟩] scope pos) 1 iter1.pos tY jK (tailD kx vx) where
 hq:=fun _ _ _=>rfl
 hden:=fun it D env Q E s h=>by
   show wpAny _ X.A ((compTurn (.DictComp kx vx [⟨tg,iter,ifs,0⟩,⟨tY,iter1,jK,0⟩] scope pos) 1 (.ref it) (.ref D) env).onRaise (fun x=>do noteFrame x env; theTreesLotGoes x)) _ _ s
   exact wpAny_noted h
 hst:=fun it D env R s h0 h=>Bj rfl rfl rfl (fun _=>rfl) rfl rfl h0 h
theorem Px {pins:List (Addr × Obj)} {σ:St} {H:Hp} {s:Shared} {Q:Value->Shared->Prop} {E:Value->Shared->Prop} (I:Inv X pins σ H s)
   (h:Inv X pins σ (upd H s.heap.objs.size (.lst [])) { s with heap:=s.heap.push { cls:=.type "list",data:=.seq ([]:List Value).toArray } }->Q (.ref s.heap.objs.size) { s with heap:=s.heap.push { cls:=.type "list",data:=.seq ([]:List Value).toArray } }):wpAny (model X.prog X.w) X.A (newList []) Q E s :=
 wpAny_newObj_type (h (I.Yg (t':=s.toks) (its:=[]) .nil (Nat.zero_le _)))
theorem Py {pins:List (Addr × Obj)} {σ:St} {H:Hp} {s:Shared} {Q:Value->Shared->Prop} {E:Value->Shared->Prop} (I:Inv X pins σ H s)
   (h:Inv X pins σ (upd H s.heap.objs.size (.dK [])) { s with heap:=s.heap.push { cls:=.type "dict",data:=.dict #[] } }->Q (.ref s.heap.objs.size) { s with heap:=s.heap.push { cls:=.type "dict",data:=.dict #[] } }):wpAny (model X.prog X.w) X.A newDict Q E s :=
 wpAny_newObj_type (h (I.laid (a:=s.heap.objs.size) (o:=.dK []) (t':=s.toks) (fun _ _ q=>Heap.get?_push_of_some _ q) (Nat.le_refl _) (Dn s.heap I.big)))
end
section
variable {X:Cx} {elt kx vx tg iter tY iter1:Expr} {ifs jK:List Expr} {scope gW:Scope} {pos:Pos} {own cap:List Str} {ix:List Nat} {wi:TI} {g g1:BI->TG} {tt Ww:BI->TT} {te tk tv:BI->TE} {Wx:BI->TI}
abbrev Yy (own:List Str) (ix:List Nat) (wi:TI) (g:BI->TG) (tt:BI->TT) (Wx:BI->TI) (g1:BI->TG) (Ww:BI->TT) (te:BI->TE):TE:=GJ own ix (.lst []) wi g tt fun b D=>aIn (Wx b) (g1 b) (Ww b) (Wv D (te b))
abbrev T8 (own:List Str) (ix:List Nat) (wi:TI) (g:BI->TG) (tt:BI->TT) (Wx:BI->TI) (g1:BI->TG) (Ww:BI->TT) (tk tv:BI->TE):TE:=GJ own ix (.dK []) wi g tt fun b D=>aIn (Wx b) (g1 b) (Ww b) (Pu D (tk b) (tv b))
theorem Dw (hc:X.calm=true) (hX:X.env.scope=gW) (S:tU gW scope X.N own cap ix) (hi:PI X tg iter wi) (hg:∀ b,PG (blk X scope (own++cap) b) tg (g b)) (ht:∀ b,La (blk X scope (own++cap) b) ifs (tt b))
   (hi1:∀ b,PI (blk X scope (own++cap) b) tY iter1 (Wx b)) (hg1:∀ b,PG (blk X scope (own++cap) b) tY (g1 b)) (ht1:∀ b,La (blk X scope (own++cap) b) jK (Ww b))
   (he:∀ b,PE (blk X scope (own++cap) b) elt (te b)) (hs:∀ x,foldedSetIterable iter X.env x=pure x:=by intro _; rfl) (hs1:∀ env x,foldedSetIterable iter1 env x=pure x:=by intro _ _; rfl) :
   PE X (.ListComp elt [⟨tg,iter,ifs,0⟩,⟨tY,iter1,jK,0⟩] scope pos) (Yy own ix wi g tt Wx g1 Ww te):=by
 intro pins s σ H Q I h
 rw [eval_ListComp]
 refine u5 (use:=none) rfl Yw (fun _ _ _ _ _ _=>Px) hc hX S hi hg ht (fun b D=>JF (acc:=.ref D) (fun it=>(Bk (X:=blk X scope (own++cap) b)).hq it D _) (fun it=>(Bk (X:=blk X scope (own++cap) b)).hden it D _) (fun it=>(Bk (X:=blk X scope (own++cap) b)).hst it D _) (fun _ _ f=>f) hc (hi1 b) (hg1 b) (ht1 b) (Pr (fun _ _ f=>f) (he b)) (hs1 _)) hs I h fun D C H' s' q hn _ hI=>?_
 obtain ⟨m,hn⟩:=hn
 exact ⟨m,hn,fun h' hh=>⟨.ref D,H',hI h' hh,rfl,q⟩⟩
theorem Dy {i:Nat} {x:Str} {pos' spos:Pos} (hN:X.N.Nodup) (hx1:X.N[i]?=some x) (hx:X.env.scope.names.lookup x=some .local) (hc:X.calm=true) (hX:X.env.scope=gW) (S:tU gW scope X.N own cap ix) (hi:PI X tg iter wi)
   (hg:∀ b,PG (blk X scope (own++cap) b) tg (g b)) (ht:∀ b,La (blk X scope (own++cap) b) ifs (tt b))
   (hi1:∀ b,PI (blk X scope (own++cap) b) tY iter1 (Wx b)) (hg1:∀ b,PG (blk X scope (own++cap) b) tY (g1 b)) (ht1:∀ b,La (blk X scope (own++cap) b) jK (Ww b))
   (hk:∀ b,PE (blk X scope (own++cap) b) kx (tk b)) (hv:∀ b,PE (blk X scope (own++cap) b) vx (tv b)) (hs:∀ x,foldedSetIterable iter X.env x=pure x:=by intro _; rfl) (hs1:∀ env x,foldedSetIterable iter1 env x=pure x:=by intro _ _; rfl)
   (hsw:swapsWith (.DictComp kx vx [⟨tg,iter,ifs,0⟩,⟨tY,iter1,jK,0⟩] scope pos) (some (.Name x pos')) spos.line X.env=pure true:=by rfl) :
   PS X (.Assign [.Name x pos'] (.DictComp kx vx [⟨tg,iter,ifs,0⟩,⟨tY,iter1,jK,0⟩] scope pos) spos) (qD (T8 own ix wi g tt Wx g1 Ww tk tv) (uZ i)):=by
 intro pins s σ H D I h
 rw [exec_Assign_Name_used _ _ _ _ hsw]
 refine wpAny_bind (wpAny_standAt (wpAny_bind ?_))
 show wpAny _ X.A (do let _ <- comprehension (.DictComp kx vx [⟨tg,iter,ifs,0⟩,⟨tY,iter1,jK,0⟩] scope pos) scope X.env _ newDict false (eval iter X.env) (some (assign (.Name x pos') X.env))) _ _ s
 refine wpAny_bind (wpAny_mono (u5 (use:=some (assign (.Name x pos') X.env)) (Q:=fun v H1=>uZ i v σ H1 D.nx) (Q':=fun _ s'=>SP X pins D .next s') rfl Yx (fun _ _ _ _ _ _=>Py) hc hX S hi hg ht
   (fun b D=>JF (acc:=.ref D) (fun it=>(Bl (X:=blk X scope (own++cap) b)).hq it D _) (fun it=>(Bl (X:=blk X scope (own++cap) b)).hden it D _) (fun it=>(Bl (X:=blk X scope (own++cap) b)).hst it D _) (fun _ _ f=>f) hc (hi1 b) (hg1 b) (ht1 b) (Lk (fun _ _ f=>f) (hk b) (hv b)) (hs1 _)) hs I h fun D1 C H' s' q hn fC hI=>?_) (fun _ s' hq=>wpAny_pure (wpAny_pure hq)) fun _ _ e=>e)
 obtain ⟨m,hn⟩:=hn
 have I0:Inv X pins σ H' s':=by
   have z:=hI s'.heap (Heap.SameBut.refl ..)
   exact z
 show wpAny _ X.A (assign (.Name x pos') X.env (.ref D1)) _ _ _
 refine wpAny_assign_Name (tH I0 hN hx1 (.inl hx) (show RelV (.ref D1) (.ref D1) from rfl) (fun s2 I2 ⟨a,sb,ha⟩=>?_) (.inr hx))
 have na:C≠a:=by
   rcases ha with e | e
   . rw [e]; exact fC.2.1
   . intro z; exact fC.2.2.2.2.1 x a e z.symm
 refine ⟨m,hn.sameBut sb na,fun h' hh=>?_⟩
 refine ⟨_,H',?_,q⟩
 exact I2.turned (it:=C) (t':=s2.toks) (fun b o hb e=>(hh.2 b hb).trans e) fC.1 fC.2.1 fC.2.2.2.1 fC.2.2.2.2.1 fC.2.2.2.2.2
end
end L2
namespace L2
open PySem PySem.Spec PyProof.Rows
section
variable {X:Cx} {pins:List (Addr × Obj)} {σ:St} {H:Hp} {s:Shared} {h':Heap}
theorem Inv.vM {t':Nat} {its:List Addr} (I:Inv X pins σ H s) (k:∀ b o,b ∉ its->s.heap.get? b=some o->h'.get? b=some o) (hf:∀ b∈its,kJ X pins H b):Inv X pins σ H { s with heap:=h',toks:=t' }:=by
 have nit:∀ b u,H b=some u->b ∉ its:=fun b u e z=>by rw [(hf b z).1] at e; cases e
 refine I.step (g':=s.gens) (d':=s.drawn) (ch:=its) (fun b hb=>⟨(hf b hb).2.2.2.1,(hf b hb).2.1,(hf b hb).2.2.2.2.1,(hf b hb).2.2.2.2.2⟩) (fun b o _ _ hc e _=>k b o hc e) (fun b o _ _ hc e _=>⟨o.slots,k b o hc e⟩) (fun _ _ _ _ n=>n)
   (fun b o hc e=>⟨o,k b o hc e⟩) (fun _ _ e=>e) (fun _ _ _ e=>e) (fun b ps e=>⟨#[],by rw [e]; simp⟩) (fun m hm=>?_) (fun b u e=>?_) I.bare
 . obtain ⟨o,es,ep,ho,r⟩:=hm
   exact ⟨o,es,ep,k _ o (fun z=>(hf _ z).2.1 rfl) ho,r⟩
 . refine (I.hok b u e).stay (fun c v hc q=>k c v ?_ q) (fun _ q=>q) fun _ _ q=>q
   rcases hc with z | z
   . rw [z]; exact nit b u e
   . exact nit c _ z
end
def Itz (K:PySem.W.Frag) (a b:Addr) (xs ys:List V):It :=
 ⟨fun i H=>dw K H a xs/\dw K H b ys/\i<xs.length/\i<ys.length,fun i H v H'=>∃ T x y,H T=none/\v=.ref T/\xs[i]?=some x/\ys[i]?=some y/\H'=upd H T (.tup [x,y]),fun i H=>dw K H a xs/\dw K H b ys/\(xs.length<=i∨ys.length<=i)⟩
def abD (z TI TO i1 i2 a b:Addr) (i:Nat) (h:Heap):Prop:=IsZip h z TI TO .none/\IsPair h TI (.ref i1) (.ref i2)/\(∃ p q,IsPair h TO p q)/\h.IsListIter i1 a i/\h.IsListIter i2 b i
theorem Pz {P:Program} {w:World} {K:PySem.W.Frag} {elts:List Expr} {k:Nat} {pos:Pos} (z TI TO i1 i2 a b:Addr) (D:ZipApart z TI TO i1 i2 a b) (xs ys:List V) :
   Turn P w K (.Tuple elts k pos) (Itz K a b xs ys) [z,TI,TO,i1,i2] z (abD z TI TO i1 i2 a b) where
 mem:=by simp
 obj:=fun i h st c hc=>by
   obtain ⟨hz,hTI,⟨p,q,hTO⟩,⟨o1,e1,c1,d1⟩,⟨o2,e2,c2,d2⟩⟩:=st
   simp only [List.mem_cons,List.not_mem_nil,or_false] at hc
   rcases hc with rfl | rfl | rfl | rfl | rfl
   . exact ⟨_,hz,fun v z=>by cases (show Data.fields _=Data.cell v from z)⟩
   . exact ⟨_,hTI,fun v z=>by cases (show Data.seq _ _=Data.cell v from z)⟩
   . exact ⟨_,hTO,fun v z=>by cases (show Data.seq _ _=Data.cell v from z)⟩
   . exact ⟨o1,e1,fun v z=>by rw [d1] at z; cases z⟩
   . exact ⟨o2,e2,fun v z=>by rw [d2] at z; cases z⟩
 keep:=fun i h h' st k=>by
   obtain ⟨hz,hTI,⟨p,q,hTO⟩,h1,h2⟩:=st
   exact ⟨k z (by simp) _ hz,k TI (by simp) _ hTI,⟨p,q,k TO (by simp) _ hTO⟩,h1.at fun o e=>k i1 (by simp) o e,h2.at fun o e=>k i2 (by simp) o e⟩
 item:=by
   intro X hP hw hK hc i pins s σ H E I hf st hg
   subst hP hw hK
   obtain ⟨hq1,hq2,l1,l2⟩:=hg
   obtain ⟨hz,hTI,⟨p,q,hTO⟩,h1,h2⟩:=st
   obtain ⟨PB,T9,Og,_⟩:=I.list hq1
   obtain ⟨its2,rv2,pl2,_⟩:=I.list hq2
   have x1:xs[i]?=some xs[i]:=List.getElem?_eq_getElem l1
   have y1:ys[i]?=some ys[i]:=List.getElem?_eq_getElem l2
   obtain ⟨u,hu,ru⟩:=T9.get x1
   obtain ⟨u2,hu2,ru2⟩:=rv2.get y1
   refine wpAny_pyNext_zip_item D hz hTI hTO h1 h2 Og.isList pl2.isList (x:=u) (y:=u2) (by simpa using hu) (by simpa using hu2) fun h' a1 a2 a3 a4 a5 a6 a7=>?_
   refine ⟨_,rfl,wpAny_letOwnedTupleGo_zip a1 fun h2' b1 b2=>?_⟩
   have kk:∀ c o,c ∉ [z,TI,TO,i1,i2]->s.heap.get? c=some o->h2'.get? c=some o:=fun c o hc e=>by
     simp only [List.mem_cons,List.not_mem_nil,or_false,not_or] at hc
     exact (b2.2 c hc.1).trans (a7 c o hc.1 hc.2.2.1 hc.2.2.2.1 hc.2.2.2.2 e)
   have ltz:z<s.heap.objs.size:=Heap.lt_size hz
   have nz:s.heap.objs.size≠z:=Nat.ne_of_gt ltz
   have eT:h2'.get? s.heap.objs.size=some { cls:=.type "tuple",data:=.seq #[u,u2] }:=(b2.2 _ nz).trans a5
   have fresh:H s.heap.objs.size=none:=I.hok.fresh (Nat.le_refl _)
   have Tf:∀ c∈[z,TI,TO,i1,i2],c<s.heap.objs.size:=fun c hc=>by
     simp only [List.mem_cons,List.not_mem_nil,or_false] at hc
     obtain ⟨o1,e1,_⟩:=h1
     obtain ⟨o2,e2,_⟩:=h2
     rcases hc with rfl | rfl | rfl | rfl | rfl
     . exact ltz
     . exact Heap.lt_size hTI
     . exact Heap.lt_size hTO
     . exact Heap.lt_size e1
     . exact Heap.lt_size e2
   have I1:Inv X pins σ (upd H s.heap.objs.size (.tup [xs[i],ys[i]])) { s with heap:=s.heap.push { cls:=.type "tuple",data:=.seq #[u,u2] } } :=
     I.laid (t':=s.toks) (fun _ _ e=>Heap.get?_push_of_some _ e) (Nat.le_refl _) ⟨by show 2<=sizeLine; rw [sizeLine_eq]; decide,[u,u2],.cons ru (.cons ru2 .nil),jY.new _ _⟩
   have hf1:∀ c∈[z,TI,TO,i1,i2],kJ X pins (upd H s.heap.objs.size (.tup [xs[i],ys[i]])) c:=fun c hc=>⟨by rw [aL (Nat.ne_of_lt (Tf c hc))]; exact (hf c hc).1,(hf c hc).2⟩
   have I2:Inv X pins σ (upd H s.heap.objs.size (.tup [xs[i],ys[i]])) { s with heap:=h2' }:=I1.vM (t':=s.toks) (fun c o hc e=>by
     by_cases ec:c=s.heap.objs.size
     . subst ec
       have e':(s.heap.push { cls:=.type "tuple",data:=.seq #[u,u2] }).get? s.heap.objs.size=some o:=e
       rw [Heap.get?_push_size _ rfl] at e'
       cases e'
       exact eT
     . have e':(s.heap.push { cls:=.type "tuple",data:=.seq #[u,u2] }).get? c=some o:=e
       rw [Heap.get?_push_ne _ _ _ ec] at e'
       exact kk c o hc e') hf1
   refine ⟨.ref s.heap.objs.size,_,I2,rfl,⟨_,_,_,fresh,rfl,x1,y1,rfl⟩,⟨b1,?_,⟨u,u2,?_⟩,?_,?_⟩,fun c hc=>(hf1 c hc).1⟩
   . exact (b2.2 _ D.TIz).trans (a7 TI _ D.TIz D.TITO D.TIi1 D.TIi2 hTI)
   . exact (b2.2 _ D.TOz).trans a2
   . exact a3.at fun o e=>(b2.2 _ D.i1z).trans e
   . exact a4.at fun o e=>(b2.2 _ D.i2z).trans e
 done:=by
   intro X hP hw hK hc i pins s σ H E I hf st hg
   subst hP hw hK
   obtain ⟨hq1,hq2,hl⟩:=hg
   obtain ⟨hz,hTI,⟨p,q,hTO⟩,h1,h2⟩:=st
   obtain ⟨PB,T9,Og,_⟩:=I.list hq1
   obtain ⟨its2,rv2,pl2,_⟩:=I.list hq2
   have e1:=T9.length
   have e2:=rv2.length
   refine wpAny_pyNext_zip_end (I.ok.hd hc) D hz hTI hTO h1 h2 Og.isList pl2.isList (by rcases hl with hl | hl <;> first | (left; simp; omega) | (right; simp; omega)) fun h' kk=>⟨rfl,I.vM (t':=s.toks) (fun c o hc e=>?_) hf⟩
   simp only [List.mem_cons,List.not_mem_nil,or_false,not_or] at hc
   exact kk c o hc.1 hc.2.2.1 hc.2.2.2.1 hc.2.2.2.2 e
 self:=fun _ _ _ _ _ st h=>wpAny_pyIter_zip st.1 h
def afd (K:PySem.W.Frag) (ta:TA):TI:=fun σ H R=>ta σ H fun vs H1=>∃ a b xs ys,vs=[.ref a,.ref b]/\dw K H1 a xs/\dw K H1 b ys/\R (Itz K a b xs ys) H1
theorem Yz {X:Cx} {a b:Expr} {ta:TA} {p pos:Pos} {elts:List Expr} {k:Nat} {tp:Pos} (hg:Gl X "zip") (hm:X.mg "zip" = none) (ha:PA X [a,b] ta) (hs:starEach [a,b] X.env=[(false,eval a X.env),(false,eval b X.env)]:=by rfl) (hs2:starEach [b] X.env=[(false,eval b X.env)]:=by rfl) :
   PI X (.Tuple elts k tp) (.Call (.Name "zip" p) [a,b] [] pos) (afd X.K ta):=by
 intro pins s σ H R I h
 refine Call_ (qC I hg hm (show bootBuiltins "zip" = some (.type "zip") by decide +kernel) (PyProof.Rows.callWith_type1 (d7 (ha pos pins s σ H _ I h) fun us s1 ⟨vs,H1,I1,r1,q1⟩=>?_) (by rw [hs,hs2]) (by rw [hs2]; rfl)))
 obtain ⟨l1,l2,xs,ys,e,hq1,hq2,q⟩:=q1
 subst e
 obtain ⟨u,u',rfl,r,r'⟩:=vals2 r1
 cases (show u=Value.ref l1 from r)
 cases (show u'=Value.ref l2 from r')
 obtain ⟨PB,T9,Og,_⟩:=I1.list hq1
 obtain ⟨its2,rv2,pl2,_⟩:=I1.list hq2
 have a1:l1<s1.heap.objs.size:=by obtain ⟨_,e,_⟩:=Og.isList; exact Heap.lt_size e
 have a2:l2<s1.heap.objs.size:=by obtain ⟨_,e,_⟩:=pl2.isList; exact Heap.lt_size e
 refine call_zip_2 Og.isList pl2.isList fun h' hz hTI hTO hi1 hi2 _ hk=>wpAny_pyIter_zip hz ?_
 refine ⟨_,_,_,_,H1,rfl,I1.kept (t':=s1.toks) hk,Pz _ _ _ _ _ l1 l2 (zipApart_new a1 a2) xs ys,⟨hz,hTI,⟨_,_,hTO⟩,hi1,hi2⟩,fun c hc=>?_,q⟩
 have le:s1.heap.objs.size<=c:=by
   simp only [List.mem_cons,List.not_mem_nil,or_false] at hc
   rcases hc with rfl | rfl | rfl | rfl | rfl
   . exact Nat.le_add_right _ 4
   . exact Nat.le_add_right _ 2
   . exact Nat.le_add_right _ 3
   . exact Nat.le_refl _
   . exact Nat.le_add_right _ 1
 exact I1.Av le (I1.hok.fresh le)
def PK (lo c:Int) (n:Nat):It:=⟨fun i _=>i<n,fun i H x H'=>H'=H/\x=.int (lo+i * c),fun i _=>n<=i⟩
theorem Dz {P:Program} {w:World} {K:PySem.W.Frag} {tg:Expr} (it:Addr) (lo c:Int) (n:Nat):Turn P w K tg (PK lo c n) [it] it (fun i h=>IsRangeIter h it (lo+(i:Nat) * c) ((n:Int)-(i:Nat)) c) where
 mem:=by simp
 obj:=fun i h st b hb=>by
   have e:b=it:=by simpa using hb
   subst e
   exact ⟨_,st,fun v z=>by cases (show Data.fields _=Data.cell v from z)⟩
 keep:=fun i h h' st k=>k it (by simp) _ st
 item:=by
   intro X hP hw hK hc i pins s σ H E I hf st hg
   subst hP hw hK
   obtain ⟨f0,f1,f2,f3,f4,f5⟩:=hf it (by simp)
   have W:=Walks.range (prog:=X.prog) (w:=X.w) (I.ok.hd hc) it lo c n
   refine W.item i s _ _ hg st fun v h' tk hv st' kk=>?_
   obtain ⟨t,rfl⟩:=hv
   have I1:Inv X pins σ H { s with heap:=h',toks:=tk }:=I.turned (fun b o hb e=>kk b o (by simpa using hb) e) f0 f1 f3 f4 f5
   exact ⟨_,rfl,zj (s:={ s with heap:=h',toks:=tk }) (n:="range_iterator") st' rfl rfl (by decide) ⟨.int (lo+i * c),H,I1,⟨t,rfl⟩,⟨rfl,rfl⟩,st',fun b hb=>(hf b hb).1⟩⟩
 done:=by
   intro X hP hw hK hc i pins s σ H E I hf st hg
   subst hP hw hK
   obtain ⟨f0,f1,f2,f3,f4,f5⟩:=hf it (by simp)
   exact wpAny_pyNext_range_end (I.ok.hd hc) st (by have:n<=i:=hg; omega) fun h' eb=>⟨rfl,I.turned (t':=s.toks) (fun b o hb e=>eb b o hb e) f0 f1 f3 f4 f5⟩
 self:=fun _ _ _ _ _ st h=>wpAny_pyIter_rangeiter st h
def abE (ta:TA):TI:=fun σ H R=>ta σ H fun vs H1=>∃ i j c:Int,vs=[.int i,.int j,.int c]/\(0<=i/\i<1000000/\0<=j/\j<1000000/\0<c/\c<1000000)/\R (PK i c (Builtin.Range.rangeSize i j c).toNat) H1
theorem Ln {X:Cx} {tg a b c:Expr} {ta:TA} {p pos:Pos} (hg:Gl X "range") (hm:X.mg "range" = none) (ha:PA X [a,b,c] ta) (hs:starEach [a,b,c] X.env=[(false,eval a X.env),(false,eval b X.env),(false,eval c X.env)]:=by rfl) (hs2:starEach [b,c] X.env=[(false,eval b X.env),(false,eval c X.env)]:=by rfl) :
   PI X tg (.Call (.Name "range" p) [a,b,c] [] pos) (abE ta):=by
 intro pins s σ H R I h
 refine Call_ (qC I hg hm boot_range (PyProof.Rows.callWith_type1 (d7 (ha pos pins s σ H _ I h) fun us s1 ⟨vs,H1,I1,r1,q1⟩=>?_) (by rw [hs,hs2]) (by rw [hs2]; rfl)))
 obtain ⟨i,j,d,e,⟨q1,q2,q3,q4,q5,q6⟩,q⟩:=q1
 subst e
 cases r1 with
 | cons r rr =>
   cases rr with
   | cons r' rr =>
     cases rr with
     | cons r'' rr =>
       cases rr
       obtain ⟨t,rfl⟩:=r
       obtain ⟨t',rfl⟩:=r'
       obtain ⟨t'',rfl⟩:=r''
       have sz0:0<=Builtin.Range.rangeSize i j d:=by
         unfold Builtin.Range.rangeSize
         rw [if_pos q5]
         split
         . have:=Int.ediv_nonneg (a:=j-i-1) (b:=d) (by omega) (by omega)
           omega
         . exact Int.le_refl 0
       have sz1:Builtin.Range.rangeSize i j d<=1000000:=by
         unfold Builtin.Range.rangeSize
         rw [if_pos q5]
         split
         . have:=Int.ediv_le_self (a:=j-i-1) d (by omega)
           omega
         . omega
       have fits:∀ z:Int,-1<=z->z<=3000000->Builtin.Range.rangeFitsLong z=true:=fun z h1 h2=>by
         unfold Builtin.Range.rangeFitsLong
         simp
         omega
       have small:Builtin.Range.small i j d=true:=by
         unfold Builtin.Range.small
         rw [fits i (by omega) (by omega),fits j (by omega) (by omega),fits d (by omega) (by omega),fits _ (by omega) (by omega),if_pos q5,fits (j+(d-1)) (by omega) (by omega)]
         simp
       refine call_range_3 (by omega) (wpAny_pyIter_range (IsRange.new ..) small ?_) (.inl (PyProof.noPylong_small (by omega)))
       have I2:Inv X pins σ H1 { s1 with heap:=s1.heap.push { cls:=.type "range",data:=.fields #[.int i t,.int j t',.int d t''] } }:=I1.kept (t':=s1.toks) fun b o e=>Heap.get?_push_of_some _ e
       refine ⟨(s1.heap.push { cls:=.type "range",data:=.fields #[.int i t,.int j t',.int d t''] }).objs.size,[(s1.heap.push { cls:=.type "range",data:=.fields #[.int i t,.int j t',.int d t''] }).objs.size],_,_,H1,rfl,
         I2.kept (t':=s1.toks) fun b o e=>Heap.get?_push_of_some _ e,Dz _ i d (Builtin.Range.rangeSize i j d).toNat,?_,fun b hb=>?_,q⟩
       . have e1:i+((0:Nat):Int) * d=i:=by simp
         have e2:((Builtin.Range.rangeSize i j d).toNat:Int)-((0:Nat):Int)=Builtin.Range.rangeSize i j d:=by omega
         show IsRangeIter _ _ (i+((0:Nat):Int) * d) (((Builtin.Range.rangeSize i j d).toNat:Int)-((0:Nat):Int)) d
         rw [e1,e2]
         exact Heap.get?_push_size _ rfl
       . have e:b=(s1.heap.push { cls:=.type "range",data:=.fields #[.int i t,.int j t',.int d t''] }).objs.size:=by simpa using hb
         subst e
         exact I2.Av (Nat.le_refl _) (I2.hok.fresh (Nat.le_refl _))
end L2
namespace L2
open PySem PySem.Spec PyProof.Rows
def vN (ks:List Key) (k:Key):Bool:=ks.any fun x=>decide (x=k)
theorem JG {ks:List Key} {k:Key}:vN ks k=true↔k∈ks:=by
 unfold vN
 rw [List.any_eq_true]
 constructor
 . rintro ⟨x,h,e⟩
   rw [<- of_decide_eq_true e]; exact h
 . exact fun h=>⟨k,h,decide_eq_true rfl⟩
theorem PL (ks:List Key) (k k':Key):vN (ks++[k]) k'=(vN ks k' || decide (k'=k)):=by
 unfold vN
 rw [List.any_append,List.any_cons,List.any_nil,Bool.or_false]
 congr 1
 rw [Bool.eq_iff_iff,decide_eq_true_iff,decide_eq_true_iff]
 exact ⟨Eq.symm,Eq.symm⟩
def dY (ks:List Key):Nat->List Key
 | 0=>[]
 | i+1=>match ks[i]? with
   | some k=>if vN (dY ks i) k=true then dY ks i else dY ks i++[k]
   | none=>dY ks i
theorem pO {ks:List Key} {i:Nat} {k:Key} (h:ks[i]?=some k):dY ks (i+1)=if vN (dY ks i) k=true then dY ks i else dY ks i++[k]:=by
 show (match ks[i]? with | some k=>_ | none=>_)=_
 rw [h]
theorem vO (ks:List Key):∀ i,(dY ks i).length<=i
 | 0=>Nat.le_refl _
 | i+1=>by
   have:=vO ks i
   unfold dY
   split
   . split
     . omega
     . rw [List.length_append]; simp; omega
   . omega
theorem wD {ks:List Key} (h:ks.Nodup):∀ i,i<=ks.length->dY ks i=ks.take i
 | 0,_=>rfl
 | i+1,hi=>by
   have hi':i<ks.length:=hi
   have ek:ks[i]?=some ks[i]:=List.getElem?_eq_getElem hi'
   have e:=wD h i (Nat.le_of_lt hi')
   rw [pO ek,e,if_neg,List.take_add_one,ek]
   . rfl
   . intro z
     have z':=JG.mp z
     obtain ⟨j,hj,ej⟩:=List.mem_iff_getElem.mp z'
     rw [List.length_take] at hj
     rw [List.getElem_take] at ej
     have:=(List.getElem_inj (i:=j) (j:=i) (h₀:=by omega) (h₁:=hi') h).mp ej
     omega
abbrev wF (led:Bool):Obj:={ cls:=.type "set",dict:=none,data:=.set #[] 0 (.fresh 0 0 led) }
section
variable {prog:Program} {w:World} {A:Around} {E:Value->Shared->Prop} {s:Shared}
theorem setLoop {R:Result->Shared->Prop} {I:Addr} {fp wr:List Addr} {G:Array GenState->Array GenState->Prop} {P:Nat->Value->Prop} {St:Nat->Shared->Prop} {ks:List Key} (W:WalksS prog w A.in1 I fp wr G ks.length P St) (Z:Addr) (nZ:Z ∉ fp)
   (isK:∀ i v,P i v->∃ k,ks[i]?=some k/\(bT prog w).is k v=true/\v.scannable=true) (few:ks.length+1<scanBound) :
   ∀ (j i:Nat) (s:Shared),ks.length-i=j->i<=ks.length->St i s->s.heap.SetOf (bT prog w) Z (vN (dY ks i)) (dY ks i).length ->
     (∀ s',Moved (Z :: wr) G s s'->s'.heap.SetOf (bT prog w) Z (vN (dY ks ks.length)) (dY ks ks.length).length->R (.ok (.ret .none)) s') ->
     codeAny (model prog w) A (.builtin "set.update.loop" ⟨[.ref Z,.ref I],[]⟩) R s:=by
 have nW:Z ∉ wr:=fun z=>nZ (W.sub _ z)
 have sub:∀ b∈wr,b∈Z :: wr:=fun b z=>List.mem_cons_of_mem _ z
 intro j
 induction j with
 | zero =>
   intro i s ej ei st zS out
   have ei':i=ks.length:=by omega
   subst ei'
   refine codeAny_builtin PyProof.Rows.F.entry_set_update_loop ?_
   rw [Around.under_plainId PyProof.Rows.F.plain_set_update_loop _]
   show wpAny _ A.in1 (pyNext (.ref I) >>= _) _ _ s
   refine wpAny_bind (W.done s _ _ st fun s' mv=>?_)
   show wpAny _ A.in1 (ret Value.none) _ _ s'
   obtain ⟨o,es,ep,t,ho,rest⟩:=zS
   exact wpAny_pure (out s' (mv.mono sub) ⟨o,es,ep,t,mv.heap Z _ nW ho,rest⟩)
 | succ j ih =>
   intro i s ej ei st zS out
   have lt:i<ks.length:=by omega
   refine codeAny_builtin PyProof.Rows.F.entry_set_update_loop ?_
   rw [Around.under_plainId PyProof.Rows.F.plain_set_update_loop _]
   show wpAny _ A.in1 (pyNext (.ref I) >>= _) _ _ s
   refine wpAny_bind (W.item i s _ _ lt st fun v s' pv st' mv=>?_)
   obtain ⟨k,ek,hk,sc⟩:=isK i v pv
   have zS':s'.heap.SetOf (bT prog w) Z (vN (dY ks i)) (dY ks i).length:=let ⟨o,es,ep,t,ho,rest⟩:=zS; ⟨o,es,ep,t,mv.heap Z _ nW ho,rest⟩
   show wpAny _ A.in1 (holding [v] (setAdd Z v) >>= _) _ _ s'
   refine wpAny_bind (wpAny_holding ?_)
   unfold setAdd
   refine wpAny_holding ?_
   refine wpAny_bind ((bT prog w).pyHash hk ?_)
   have le:=vO ks i
   refine wpAny_setAddHashed_of (knd:=bT prog w) (s:={ s' with toks:=s'.toks+1 }) hk sc zS' (by omega) fun h2 sb zS2=>?_
   have zS3:h2.SetOf (bT prog w) Z (vN (dY ks (i+1))) (dY ks (i+1)).length:=by
     have Lp:h2.SetOf (bT prog w) Z (fun k'=>vN (dY ks i) k' || decide (k'=k)) (if vN (dY ks i) k=true then (dY ks i).length else (dY ks i).length+1):=zS2
     rw [pO ek]
     cases q:vN (dY ks i) k with
     | true =>
       rw [q,if_pos rfl] at Lp
       rw [if_pos rfl]
       have ef:(fun k'=>vN (dY ks i) k' || decide (k'=k))=vN (dY ks i):=funext fun k'=>by
         by_cases z:k'=k
         . subst z; rw [q]; rfl
         . rw [decide_eq_false z,Bool.or_false]
       rw [ef] at Lp
       exact Lp
     | false =>
       rw [q,if_neg Bool.false_ne_true] at Lp
       rw [if_neg Bool.false_ne_true,List.length_append]
       have ef:(fun k'=>vN (dY ks i) k' || decide (k'=k))=vN (dY ks i++[k]):=funext fun k'=>(PL _ _ _).symm
       rw [ef] at Lp
       exact Lp
   refine wpAny_pure ⟨plainId_quiet PyProof.Rows.F.plain_set_update_loop _,ih (i+1) _ (by omega) lt (W.frame _ s' _ _ st' (Nat.le_succ _) fun b hb o e=>?_) zS3 fun s'' mv2 z2=>?_⟩
   . rw [sb.2 b (fun z:b=Z=>nZ (by rw [<- z]; exact hb))]; exact e
   . refine out s'' (Moved.trans W.gtrans ((mv.mono sub).then_heap (Nat.le_succ _) fun b o hb e=>?_) mv2) z2
     rw [sb.2 b (fun z:b=Z=>hb (by rw [z]; exact List.mem_cons_self))]; exact e
theorem Ua {l:Addr} {items:Array Value} {ks:List Key} {Q:Value->Shared->Prop} (hh:A.handled=none) (hl:s.heap.IsList l items) (hz:items.size=ks.length)
   (isK:∀ (i:Nat) (v:Value),items[i]?=some v->∃ k,ks[i]?=some k/\(bT prog w).is k v=true/\v.scannable=true) (few:ks.length+1<scanBound)
   (h:∀ (h':Heap) (tk:Nat),h'.SetOf (bT prog w) s.heap.objs.size (vN (dY ks ks.length)) (dY ks ks.length).length->(∀ b o,s.heap.get? b=some o->h'.get? b=some o)->Q (.ref s.heap.objs.size) { s with heap:=h',toks:=tk }) :
   wpAny (model prog w) A (call (.type "set") [.ref l]) Q E s:=by
 obtain ⟨cm,tm,hmro⟩:=PySem.F.called_set.mro
 have made:=PySem.F.called_set.made
 have anY:=PySem.F.called_set.sub
 refine wpAny_call (codeAny_of_tree ?_)
 show wpAny _ _ (callAny (.type "set") _) _ _ _
 refine wpAny_pure ⟨Code.quiet_builtin _ (by decide +kernel),codeAny_builtin PySem.F.entry_type_call ?_⟩
 rw [Around.under_plain (weight_type_call_type "set" [.ref l] []) rfl]
 have c1:=PySem.F.called_set.notType
 have c2:=PySem.F.called_set.canCreate
 have c3:=PySem.F.typeCall_set_1 (.ref l)
 repeat (any_goals (first | assumption | wp_step))
 generalize hN:s.heap.objs.size=N at h
 refine codeAny_mono (code_set_new_1 (.ref l) (E:=E) (Q₁:=fun ob s1=>∃ led:Bool,ob=.ref s.heap.objs.size/\s1={ s with heap:=s.heap.push (wF led) }) fun led=>⟨led,rfl,rfl⟩) fun r s1 hr=>?_
 cases r with
 | error e=>exact hr
 | ok fl =>
   cases fl with
   | ret ob =>
     obtain ⟨led,rfl,rfl⟩:=hr
     have gS:(s.heap.push (wF led)).get? s.heap.objs.size=some (wF led):=Heap.get?_push_size _ rfl
     have hT:Shared.TypeIs { s with heap:=s.heap.push (wF led) } (.ref s.heap.objs.size) "set":=⟨_,gS,rfl⟩
     have li:=PySem.F.called_set.init.lookup
     have bi:=PySem.F.called_set.init.bind (.ref s.heap.objs.size)
     repeat (any_goals (first | assumption | wp_step))
     refine codeAny_mono (codeAny_call_builtin (R:=wants (fun r s2=>r=.none/\∃ h' tk,s2={ s with heap:=h',toks:=tk }/\h'.SetOf (bT prog w) s.heap.objs.size (vN (dY ks ks.length)) (dY ks ks.length).length/\(∀ b o,s.heap.get? b=some o->h'.get? b=some o)) E)
       PySem.F.called_set.init.plain PySem.F.entry_set_init (check_set_init_1 hT ?_)) fun r2 s2 hr2=>?_
     . obtain ⟨ol,gl,cl,nl,dl⟩:=hl
       obtain ⟨oc,od,oa,os⟩:=ol
       simp only at cl dl
       subst cl dl
       have gl':(s.heap.push (wF led)).get? l=some { cls:=.type "list",dict:=od,data:=.seq items nl,slots:=os }:=Heap.get?_push_of_some _ gl
       have t1:=PySem.F.sub_list_set
       have t2:=PySem.F.sub_list_frozenset
       have t3:(Value.type "list" == Value.type "dict")=false:=by decide
       have lst:(s.heap.push (wF led)).IsList l items:=⟨_,gl',rfl,nl,rfl⟩
       unfold Builtin.«set.__init__» noKeywords Builtin.Frozenset.updateFrom
       generalize hPI:pyIter=PI
       wp_walk
       subst hPI
       refine wpAny_pyIter_list lst ?_
       refine (wpAny_bind (wpAny_runValue ?_))
       have lS:l<s.heap.objs.size:=Heap.lt_size gl
       have h3:A.in1.in1.in1.handled=none:=by simp [hh]
       have sz:(s.heap.push (wF led)).objs.size=s.heap.objs.size+1:=Heap.size_push ..
       have n1:l≠(s.heap.push (wF led)).objs.size:=by rw [sz]; exact Nat.ne_of_lt (Nat.lt_succ_of_lt lS)
       have n2:s.heap.objs.size ∉ [(s.heap.push (wF led)).objs.size,l]:=by
         rw [sz]
         intro z
         rcases List.mem_cons.mp z with z | z
         . exact absurd z (Nat.ne_of_lt (Nat.lt_succ_self _))
         . exact absurd (List.mem_singleton.mp z) (Nat.ne_of_gt lS)
       have W:=(Walks.list (prog:=prog) (w:=w) h3 _ l n1 items).toS
       rw [hz] at W
       refine setLoop W s.heap.objs.size n2 isK few (ks.length-0) 0 _ rfl (Nat.zero_le _) ⟨⟨_,Heap.get?_push_size _ rfl,rfl,rfl⟩,lst.push _⟩ ?_ fun s' mv z=>?_
       . have g2:((s.heap.push (wF led)).push { cls:=.type "list_iterator",data:=.fields #[.ref l,.int 0 0] }).get? s.heap.objs.size=some (wF led):=Heap.get?_push_of_some _ gS
         exact ⟨_,#[],0,_,g2,⟨rfl,rfl,rfl⟩,rfl,fun e he=>by simp at he,fun k=>by simp [dY,vN],by decide,rfl,rfl⟩
       . obtain ⟨h',g',d',tk',os'⟩:=s'
         obtain rfl:g'=s.gens:=mv.gens
         obtain rfl:d'=s.drawn:=mv.drawn
         obtain rfl:os'=s.os:=mv.os
         show wpAny _ _ _ _ _ _
         refine wpAny_pure ?_
         show wpAny _ _ (ret Value.none) _ _ _
         refine wpAny_pure ⟨rfl,h',tk',rfl,z,fun b o e=>?_⟩
         have lb:b<s.heap.objs.size:=Heap.lt_size e
         refine mv.heap b o (fun z=>?_) (Heap.get?_push_of_some _ (Heap.get?_push_of_some _ e))
         rcases List.mem_cons.mp z with z | z
         . exact absurd z (Nat.ne_of_lt lb)
         . exact absurd (List.mem_singleton.mp z) (by rw [sz]; exact Nat.ne_of_lt (Nat.lt_succ_of_lt lb))
     . cases r2 with
       | error e=>exact hr2
       | ok fl2 =>
         cases fl2 with
         | ret r =>
           obtain ⟨rfl,h',tk,rfl,zS,kk⟩:=hr2
           repeat (any_goals (first | assumption | wp_step))
           subst hN
           exact h _ _ zS kk
         | _=>exact hr2.elim
   | _=>exact hr.elim
end
end L2
namespace L2
open PySem PySem.Spec PyProof.Rows
section
variable {X:Cx}
theorem DG:gU X (.builtin "sorted") (fun xs H Q=>∃ p ss,xs=[.ref p]/\dw X.K H p (ss.map V.str)/\ss.length<64/\∀ l ss',H l=none->ss'.Perm ss->sortedS ss'=true->Q (.ref l) (upd H l (.lst (ss'.map V.str)))):=by
 intro pins s σ H xs us Q I r h
 obtain ⟨p,ss,rfl,hq,h64,q⟩:=h
 obtain ⟨u,rfl,ru⟩:=vals1 r
 cases ru
 obtain ⟨its,rv,pl,_⟩:=I.list hq
 have hS:=vJ rv
 have hlen:its.length=ss.length:=by rw [<- rv.length,List.length_map]
 refine sorted_strs pl.isList hS (by omega) fun out ss' h1 h2 h3=>?_
 obtain ⟨e,he⟩:=sortedAll_at s.heap its out
 have hl:ss'.length=ss.length:=h2.length_eq
 have mR:sizeLine=16777216:=sizeLine_eq
 refine ⟨.ref (s.heap.objs.size+1),_,I.laid (t':=s.toks) (o:=.lst (ss'.map V.str)) (fun _ _=>sortedAll_old) (Nat.le_succ _) ⟨by rw [List.length_map]; omega,out.toList,e,?_,he⟩,rfl,q _ _ (I.hok.fresh (Nat.le_succ _)) h2 h3⟩
 clear he h2 h3 hl
 generalize out.toList=l at h1
 induction h1 with
 | nil=>exact .nil
 | cons x t _ ih=>exact .cons ⟨t,rfl⟩ ih
theorem zK (c:Nat):∀ (n:Nat) (a:Array Nat),(List.replicate n (#[c]:Array Nat)).foldl (·++·) a=a++(List.replicate n c).toArray
 | 0,a=>by simp
 | n+1,a=>by
   rw [List.replicate_succ,List.foldl_cons,zK c n,List.replicate_succ]
   apply Array.ext'
   simp
theorem Ub:iD X (binaryOp .Mult) (fun x y H Q=>∃ (c:Nat) (n:Int),x=.str ⟨#[c]⟩/\y=.int n/\1<=n/\n<=1000/\Q (.str ⟨(List.replicate n.toNat c).toArray⟩) H):=by
 intro pins s σ H x y v u Q I rx ry h
 obtain ⟨c,n,rfl,rfl,h1,h2,q⟩:=h
 obtain ⟨t,rfl⟩:=rx
 obtain ⟨t',rfl⟩:=ry
 have n1:¬ n<1:=by omega
 have l1:(⟨#[c]⟩:Str).length=1:=rfl
 refine PySem.P.mul_str (by rw [decide_eq_false (by omega),decide_eq_false (by omega)]; rfl) (fun _ _ z=>?_) (fun _ _=>?_) ?_
 . rw [l1] at z
   have:(1:Int)<=(2 ^ 63-1) / n:=by
     rw [Int.le_ediv_iff_mul_le (by omega)]
     omega
   have z':((1:Nat):Int) > (2 ^ 63-1) / n:=z
   omega
 . rw [l1,Nat.one_mul]
   show decide (n.toNat > sizeLine)=false
   rw [decide_eq_false_iff_not,sizeLine_eq]
   omega
 . rw [if_neg n1]
   by_cases e1:n=1
   . subst e1
     rw [if_pos (by simp)]
     exact ⟨.str ⟨#[c]⟩,H,I,⟨t,rfl⟩,q⟩
   . rw [if_neg (by
       intro z
       rw [Bool.or_eq_true] at z
       rcases z with z | z
       . exact e1 (beq_iff_eq.mp z)
       . rw [l1] at z; exact absurd z (by decide)),zK]
     have e2:(#[]:Array Nat)++(List.replicate n.toNat c).toArray=(List.replicate n.toNat c).toArray:=by simp
     rw [e2]
     refine ⟨?_,?_⟩
     . show (List.replicate n.toNat c).toArray.size<=sizeLine
       rw [List.size_toArray,List.length_replicate,sizeLine_eq]; omega
     . exact ⟨.str _,H,I.tok _,⟨_,rfl⟩,q⟩
end
end L2
namespace L2
open PySem PySem.Spec PyProof.Rows
section
variable {prog:Program} {w:World} {A:Around} {E:Value->Shared->Prop} {s:Shared}
end
end L2
namespace L2
open PySem PySem.Spec PyProof.Rows
section
variable {X:Cx}
def PN (P:Program) (w:World) (p:Addr) (ks:List Key):Heap->Prop:=fun h=>h.SetOf (bT P w) p (vN (dY ks ks.length)) (dY ks ks.length).length
theorem Uc:∀ {ks:List Key} {us:List Value},Vals (ks.map kV) us->∀ (i:Nat) (v:Value),us[i]?=some v->∃ k,ks[i]?=some k/\(bT X.prog X.w).is k v=true/\v.scannable=true:=by
 intro ks us r i v e
 obtain ⟨k,ek⟩:∃ k,ks[i]?=some k:=by
   have hl:=r.length
   rw [List.length_map] at hl
   have:i<us.length:=by
     rcases Nat.lt_or_ge i us.length with z | z
     . exact z
     . rw [List.getElem?_eq_none z] at e; cases e
   exact ⟨ks[i],List.getElem?_eq_getElem (by omega)⟩
 obtain ⟨u,eu,ru⟩:=r.get (i:=i) (x:=kV k) (by rw [List.getElem?_map,ek]; rfl)
 rw [e] at eu
 cases eu
 refine ⟨k,ek,zA ru,?_⟩
 cases k with
 | inl j=>cases j with
   | none=>cases (show v=Value.none from ru); rfl
   | some j=>obtain ⟨t,rfl⟩:=(show ∃ t,v=Value.int j t from ru); rfl
 | inr x=>obtain ⟨t,rfl⟩:=(show ∃ t,v=Value.str x t from ru); rfl
theorem PX (hc:X.calm=true):gU X (.type "set") (fun xs H Q=>∃ p ks,xs=[.ref p]/\dw X.K H p (ks.map kV)/\ks.length<4000/\∀ l,H l=none->Q (.ref l) (upd H l (.ext (PN X.prog X.w l ks)))):=by
 intro pins s σ H xs us Q I r h
 obtain ⟨p,ks,rfl,hq,h40,q⟩:=h
 obtain ⟨u,rfl,ru⟩:=vals1 r
 cases ru
 obtain ⟨its,rv,pl,_⟩:=I.list hq
 have hlen:its.length=ks.length:=by rw [<- rv.length,List.length_map]
 refine Ua (I.ok.hd hc) pl.isList (by rw [List.size_toArray]; exact hlen) (fun i v e=>Uc (X:=X) rv i v (by simpa using e)) (by unfold scanBound; omega) fun h' tk zS kk=>?_
 refine ⟨.ref s.heap.objs.size,_,I.laid (t':=tk) (o:=.ext (PN X.prog X.w s.heap.objs.size ks)) kk (Nat.le_refl _) ⟨zS,?_,?_⟩,rfl,q _ (I.hok.fresh (Nat.le_refl _))⟩
 . obtain ⟨o,_,_,_,e,_⟩:=zS
   exact ⟨o,e⟩
 . intro h1 h2 z k
   obtain ⟨o,es,ep,t,e,rest⟩:=z
   exact ⟨o,es,ep,t,k o e,rest⟩
theorem Lq:gU X (.builtin "len") (fun xs H Q=>∃ p ks,xs=[.ref p]/\H p=some (.ext (PN X.prog X.w p ks))/\Q (.int (dY ks ks.length).length) H):=by
 intro pins s σ H xs us Q I r h
 obtain ⟨p,ks,rfl,hp,q⟩:=h
 obtain ⟨u,rfl,ru⟩:=vals1 r
 cases ru
 obtain ⟨⟨o,es,ep,t,ho,hex,hd,hel,hmem,hb,hf,hn⟩,_⟩:=(show dZ X.prog X.w H s.heap p (.ext (PN X.prog X.w p ks)) from I.hok p _ hp)
 refine call_len_set ho hex hd hf (by unfold scanBound at hb; omega) ?_
 exact ⟨.int (dY ks ks.length).length,H,I.tok _,⟨_,by rw [hn]⟩,q⟩
theorem Lr:MtM X "dict.update" (fun x xs H Q=>∃ a b kvs more,x=.ref a/\xs=[.ref b]/\a≠b/\H a=some (.dK kvs)/\H b=some (.dK more)/\kvs.length+more.length<=sizeLine/\Q .non (upd H a (.dK (qF kvs more)))):=by
 intro pins s σ H x xs v us Q I rx rs h
 obtain ⟨a,b,kvs,more,rfl,rfl,ne,ha,hb,hz,q⟩:=h
 cases (show v=Value.ref a from rx)
 obtain ⟨u,rfl,ru⟩:=vals1 rs
 cases ru
 obtain ⟨z1,d1,vs1,YB,dd1⟩:=Dl I.hok ha
 obtain ⟨z2,d2,vs2,YC,dd2⟩:=Dl I.hok hb
 refine call_meetsIn PySem.F.slot_dict_update dd1.typeIs PySem.F.entry_dict_update (PySem.F.args_dict_update_2 _ _) (meets_dict_update (bT X.prog X.w) a b ne d2) ⟨vs1,vs2,dd1,dd2,by rw [<- YB.length,<- YC.length]; exact hz,fun h' m1 m2 sb=>?_⟩
 have he:∃ q,h'.get? a=some q:=let ⟨q,_,_,hq,_⟩:=m1; ⟨q,hq⟩
 have hl:(qF kvs more).length<=sizeLine:=by
   refine Nat.le_trans ?_ hz
   clear hz q YC dd2 m1 m2 hb z2 ha YB dd1 z1
   induction more generalizing kvs with
   | nil=>exact Nat.le_refl _
   | cons p r ih =>
     have h1:=ih (kvs:=putK kvs p.1 p.2)
     have h2:=gB kvs p.1 p.2
     show (qF (putK kvs p.1 p.2) r).length<=_
     rw [List.length_cons]
     omega
 exact ⟨.non,_,vH I (by rw [ha]; exact True.intro) sb he (GC hl d1 (YC.merge YB) m1),rfl,q⟩
end
section
variable {prog:Program} {w:World} {A:Around} {E:Value->Shared->Prop} {s:Shared}
theorem Ls {x:Value} {ss:List Str} {Q:Value->Shared->Prop} (h64:ss.length<64)
   (col:∀ (R:List Value->Shared->Prop),(∀ (h':Heap) (tk:Nat) (vs:List Value),(∀ b o,s.heap.get? b=some o->h'.get? b=some o)->StrsAre vs ss->R vs { s with heap:=h',toks:=tk })->wpAny (model prog w) A.in1 (collect x) R E s)
   (h:∀ (h1 h':Heap) (tk:Nat) (out:List Value) (ss':List Str) (n:Nat),(∀ b o,s.heap.get? b=some o->h1.get? b=some o)->(∀ b o,h1.get? b=some o->h'.get? b=some o)->h'.get? h1.objs.size=some (seqObj "list" out.toArray n)->StrsAre out ss'->ss'.Perm ss->sortedS ss'=true->Q (.ref h1.objs.size) { s with heap:=h',toks:=tk }) :
   wpAny (model prog w) A (call (.builtin "sorted") [x]) Q E s:=by
 refine Calls.call_function_entry kind_sorted plain_sorted entry_sorted (args_sorted1 _) ?_
 unfold Builtin.«sorted»
 refine wpAny_bind (m:=checkCount "sorted" 1 1 _) (wpAny_pure ?_)
 refine wpAny_bind (col _ fun h' tk vs kk hS=>?_)
 have hl:vs.length=ss.length:=by rw [<- hS.strs,List.length_map]
 have mR:sizeLine=16777216:=sizeLine_eq
 refine wpAny_bind (wpAny_newList ?_ (by omega))
 have g0:(h'.push (seqObj "list" vs.toArray 0)).get? h'.objs.size=some (seqObj "list" vs.toArray 0):=Heap.get?_push_size _ rfl
 refine wpAny_bind (wpAny_holding (wpAny_call_entry slot_list_sort (s:={ s with heap:=h'.push (seqObj "list" vs.toArray 0),toks:=tk }) ⟨_,g0,rfl⟩ entry_list_sort
   (list_sort_treeK (s:={ s with heap:=h'.push (seqObj "list" vs.toArray 0),toks:=tk }) strKind_oneLt g0 hS.keysOf (fun v₁ v₂ rest e=>keyKind_strs (by rw [<- e]; exact hS)) (by omega) fun st' p1 p2=>⟨_,rfl,?_⟩) (args_list_sort _)))
 obtain ⟨ss',q1,q2,q3⟩:=sorted_out_str hS p1 p2
 obtain ⟨n,hn⟩:=sortedHeap_at (vs:=vs) (out:=(arrOf st').map (·.2)) g0
 refine wpAny_pure ⟨_,rfl,h h' _ tk ((arrOf st').map (·.2)).toList ss' n kk (fun b o e1=>?_) (by rw [Array.toArray_toList]; exact hn) q1 q2 q3⟩
 have lt:b<h'.objs.size:=Heap.lt_size e1
 show (sortedHeap (h'.push (seqObj "list" vs.toArray 0)) h'.objs.size vs _).get? b=some o
 rw [sortedHeap_old (Nat.ne_of_lt lt) (by rw [Heap.size_push]; exact Nat.lt_succ_of_lt lt)]
 exact Heap.get?_push_of_some _ e1
end
section
variable {X:Cx}
theorem Ud:∀ {ss:List Str} {us:List Value},StrsAre us ss->Vals (ss.map V.str) us:=by
 intro ss us h
 induction h with
 | nil=>exact .nil
 | cons x t _ ih=>exact .cons ⟨t,rfl⟩ ih
theorem JH:∀ {ss:List Str} {us:List Value},us.length=ss.length->(∀ (i:Nat) (v:Value),us[i]?=some v->∃ x t,ss[i]?=some x/\v=.str x t)->StrsAre us ss
 | [],[],_,_=>.nil
 | x :: ss,u :: us,hl,h=>by
   obtain ⟨y,t,e,rfl⟩:=h 0 u rfl
   cases (show some x=some y from e)
   exact .cons x t (JH (by simpa using hl) fun i v e=>h (i+1) v (by simpa using e))
 | [],_ :: _,hl,_=>by simp at hl
 | _ :: _,[],hl,_=>by simp at hl
theorem Bm (hc:X.calm=true):gU X (.builtin "sorted") (fun xs H Q=>∃ p kvs ss,xs=[.ref p]/\H p=some (.dK kvs)/\kvs.map (·.1)=ss.map Sum.inr/\ss.length<64/\∀ l ss',H l=none->ss'.Perm ss->sortedS ss'=true->Q (.ref l) (upd H l (.lst (ss'.map V.str)))):=by
 intro pins s σ H xs us Q I r h
 obtain ⟨p,kvs,ss,rfl,hp,hk,h64,q⟩:=h
 obtain ⟨u,rfl,ru⟩:=vals1 r
 cases ru
 obtain ⟨z,d,vs,rel,dd⟩:=Dl I.hok hp
 have hl:kvs.length=ss.length:=by have:=congrArg List.length hk; simpa using this
 have hvl:vs.length=ss.length:=by rw [<- rel.length]; exact hl
 have mR:sizeLine=16777216:=sizeLine_eq
 obtain ⟨ep,hat⟩:=dd.dictAt
 refine Ls h64 (fun R hR=>PySem.W.kdu_collect (A:=X.A.in1) (PySem.W.kdl_dict (knd:=bT X.prog X.w) (kvs:=vs) (ep:=ep) d) (by simpa using I.ok.hd hc) hat (by omega) fun h' tk acc kk hacc=>hR h' tk acc.toList kk ?_) fun h1 h' tk out ss' n k1 k2 ho hS hp2 hs=>?_
 . refine JH (by rw [Array.length_toList]; exact hacc.1.trans hvl) fun i v e=>?_
   obtain ⟨k,x,ek,hk'⟩:=hacc.2 i v (by simpa using e)
   have ek2:(kvs.map (·.1))[i]?=some k:=by
     rw [rel.keys,List.getElem?_map,ek]; rfl
   rw [hk,List.getElem?_map] at ek2
   cases es:ss[i]? with
   | none=>rw [es] at ek2; cases ek2
   | some y =>
     rw [es] at ek2
     cases (show some (Sum.inr y:Key)=some k from ek2)
     rcases cR (show uY (Sum.inr y) v=true from hk') with ⟨j,t,e1,e2⟩ | ⟨x',t,e1,e2⟩ | ⟨e1,e2⟩
     . cases e1
     . cases e1
       exact ⟨y,t,rfl,e2⟩
     . cases e1
 . have I1:Inv X pins σ H { s with heap:=h1,toks:=tk }:=I.kept k1
   have hl':ss'.length=ss.length:=hp2.length_eq
   exact ⟨.ref h1.objs.size,_,I1.laid (t':=tk) (o:=.lst (ss'.map V.str)) k2 (Nat.le_refl _) ⟨by rw [List.length_map]; omega,out,n,Ud hS,ho⟩,rfl,q _ _ (I1.hok.fresh (Nat.le_refl _)) hp2 hs⟩
end
end L2
namespace L2
open PySem PySem.Spec PyProof.Rows
def GK (h:Heap) (d:Addr) (es:Array DictEntry) (ep:Nat):Prop:=∃ o,h.get? d=some o/\o.ExactDict/\o.data=.dict es ep
section
variable {prog:Program} {w:World} {A:Around} {E:Value->Shared->Prop} {s:Shared}
theorem GK.typ {d:Addr} {es:Array DictEntry} {ep:Nat} (R:GK s.heap d es ep):s.TypeIs (.ref d) "dict":=let ⟨o,e,x,_⟩:=R; ⟨o,e,x.1⟩
theorem Ue {d:Addr} {es:Array DictEntry} {ep:Nat} {Q:Value->Shared->Prop} (nS:(d == sysModules)=false) (R:GK s.heap d es ep)
   (q:Q (.ref s.heap.objs.size) { s with heap:=s.heap.push { cls:=.type "dict_keyiterator",data:=.fields #[.ref d,.int 0 0,.int es.size 0,.int ep 0] } }):wpAny (model prog w) A (pyIter (.ref d)) Q E s:=by
 have T:=R.typ
 obtain ⟨o,e,_,dat⟩:=R
 refine wpAny_pyIter_slot T PySem.F.slot_dict_iter (wpAny_call_entry PySem.F.slot_dict_iter T PySem.F.entry_dict_iter ?_ (PySem.F.args_dict_iter_1 _))
 unfold Builtin.«dict.__iter__»
 refine wpAny_bind ?_
 unfold Builtin.Dict.dictSlotNone
 refine wpAny_bind (wpAny_notOrdered_dict T ?_)
 show wpAny _ _ (pure (Value.ref d)) _ _ s
 refine wpAny_pure ?_
 show wpAny _ _ (Builtin.Dict.showsAll d >>= _) _ _ s
 unfold Builtin.Dict.showsAll
 rw [if_neg (by rw [nS]; exact Bool.false_ne_true)]
 refine wpAny_bind (wpAny_pure (wpAny_bind (wpAny_dictEntries e dat (wpAny_bind (wpAny_dictEpoch e dat ?_)))))
 refine wpAny_bind (wpAny_newObj_type (wpAny_pure ⟨_,rfl,"dict_keyiterator",_,⟨_,Heap.get?_push_size _ rfl,rfl⟩,PySem.F.slot_dict_keyiterator_next.lookup,?_⟩))
 simpa [rawInt] using q
theorem Ug {it d:Addr} {i ep:Nat} {es:Array DictEntry} {Q:Option Value->Shared->Prop} (K:s.heap.IsKeyIter it d i es.size ep) (R:GK s.heap d es ep) (lt:i<es.size)
   (q:∀ h',h'.IsKeyIter it d (i+1) es.size ep->Heap.SameBut it s.heap h'->Q (some es[i].key) { s with heap:=h' }):wpAny (model prog w) A (pyNext (.ref it)) Q E s:=by
 obtain ⟨o,e,c,dt⟩:=id K
 obtain ⟨od,e2,_,dd⟩:=R
 unfold pyNext
 refine wpAny_bind (wpAny_attempt (wpAny_callSpecial?_slot (name:=Str.ofString "__next__") K.typeIs PySem.F.slot_dict_keyiterator_next (wpAny_call_entry PySem.F.slot_dict_keyiterator_next K.typeIs PySem.F.entry_dict_keyiterator_next ?_ (PySem.F.args_dict_keyiterator_next_1 _))))
 refine wpAny_bind (wpAny_pure (wpAny_bind (wpAny_bind ?_)))
 first | refine wpAny_bind (wpAny_typeNameOfWhole_keyiter K.typeIs (wpAny_pure ?_)) | refine wpAny_bind (wpAny_typeNameOf_keyiter K.typeIs (wpAny_pure ?_))
 refine wpAny_bind (wpAny_fieldsOf e dt ?_)
 have own:Builtin.Dict_items.ownsTuple "dict_keyiterator" = false:=by decide
 simp only [own,Bool.false_eq_true,if_false]
 show wpAny _ _ (if (Value.ref d == Value.none)=true then _ else _) _ _ s
 rw [if_neg (show ¬ ((Value.ref d == Value.none)=true) from Bool.false_ne_true)]
 refine wpAny_bind (wpAny_pure (wpAny_bind (wpAny_dictEntries e2 dd ?_)))
 rw [if_neg (by simp)]
 refine wpAny_bind (wpAny_pure (wpAny_bind (wpAny_dictEpoch e2 dd ?_)))
 rw [if_neg (by simp)]
 refine wpAny_pure ?_
 simp only [show ¬ ((i:Int)<0) from by omega,if_false,Int.toNat_natCast,Array.getElem?_eq_getElem lt]
 refine wpAny_bind ?_
 first | refine wpAny_bind (wpAny_typeNameOfWhole_keyiter K.typeIs (wpAny_pure ?_)) | refine wpAny_bind (wpAny_typeNameOf_keyiter K.typeIs (wpAny_pure ?_))
 refine wpAny_bind (wpAny_isOneOf_keyiter K.typeIs ?_)
 show wpAny _ _ (setField (.ref it) 1 (rawInt ((i:Int)+1)) >>= _) _ _ s
 refine wpAny_bind (wpAny_setField e dt (by simp) ?_)
 have K':(s.heap.update it (Obj.mapFields (·.setIfInBounds 1 (rawInt ((i:Int)+1))))).IsKeyIter it d (i+1) es.size ep:=⟨_,Heap.get?_update_self _ e (Obj.isFreed_of_fields (Obj.data_mapFields dt _)),(Obj.cls_mapFields ..).trans c,by rw [Obj.data_mapFields dt]; simp [rawInt]⟩
 refine wpAny_bind (wpAny_holding (wpAny_bind (wpAny_isOneOf_keyiter (s:={ s with heap:=s.heap.update it (Obj.mapFields (·.setIfInBounds 1 (rawInt ((i:Int)+1)))) }) K'.typeIs ?_)))
 show wpAny _ _ (pure es[i].key) _ _ _
 exact wpAny_pure (wpAny_pure ⟨_,rfl,wpAny_pure (q _ K' (Heap.SameBut.update ..))⟩)
theorem YD {it d:Addr} {ep:Nat} {es:Array DictEntry} {Q:Option Value->Shared->Prop} (hh:A.handled=none) (K:s.heap.IsKeyIter it d es.size es.size ep) (R:GK s.heap d es ep) (q:∀ h',Heap.ExtBut it s.heap h'->Q none { s with heap:=h' }) :
   wpAny (model prog w) A (pyNext (.ref it)) Q E s:=by
 obtain ⟨o,e,c,dt⟩:=id K
 obtain ⟨od,e2,_,dd⟩:=R
 unfold pyNext
 refine wpAny_bind (wpAny_attempt (wpAny_callSpecial?_slot (name:=Str.ofString "__next__") K.typeIs PySem.F.slot_dict_keyiterator_next (wpAny_call_entry PySem.F.slot_dict_keyiterator_next K.typeIs PySem.F.entry_dict_keyiterator_next ?_ (PySem.F.args_dict_keyiterator_next_1 _))))
 refine wpAny_bind (wpAny_pure (wpAny_bind (wpAny_bind ?_)))
 first | refine wpAny_bind (wpAny_typeNameOfWhole_keyiter K.typeIs (wpAny_pure ?_)) | refine wpAny_bind (wpAny_typeNameOf_keyiter K.typeIs (wpAny_pure ?_))
 refine wpAny_bind (wpAny_fieldsOf e dt ?_)
 have own:Builtin.Dict_items.ownsTuple "dict_keyiterator" = false:=by decide
 simp only [own,Bool.false_eq_true,if_false]
 show wpAny _ _ (if (Value.ref d == Value.none)=true then _ else _) _ _ s
 rw [if_neg (show ¬ ((Value.ref d == Value.none)=true) from Bool.false_ne_true)]
 refine wpAny_bind (wpAny_pure (wpAny_bind (wpAny_dictEntries e2 dd ?_)))
 rw [if_neg (by simp)]
 refine wpAny_bind (wpAny_pure (wpAny_bind (wpAny_dictEpoch e2 dd ?_)))
 rw [if_neg (by simp)]
 refine wpAny_pure ?_
 simp only [show ¬ ((es.size:Int)<0) from by omega,if_false,Int.toNat_natCast,Array.getElem?_eq_none (Nat.le_refl es.size)]
 refine wpAny_bind ?_
 first | refine wpAny_bind (wpAny_typeNameOfWhole_keyiter K.typeIs (wpAny_pure ?_)) | refine wpAny_bind (wpAny_typeNameOf_keyiter K.typeIs (wpAny_pure ?_))
 show wpAny _ _ (setField (.ref it) 0 .none >>= _) _ _ s
 refine wpAny_bind (wpAny_setField e dt (by simp) ?_)
 show wpAny _ _ (newExc (.type "StopIteration") [] >>= _) _ _ _
 refine wpAny_bind ?_
 simp only [newExc,newTuple]
 refine wpAny_bind (wpAny_newObj_type ?_ (by size_fits))
 refine wpAny_bind (m:=firstArgMember _ _) (wpAny_of_eq (a:=Value.none) (by first | rfl | (simp only [firstArgMember]; rfl)) (wpAny_newObj_type ?_ (by size_fits)))
 simp only [raiseNew]
 refine wpAny_bind (wpAny_handled ?_)
 rw [show A.in1.handled=none from hh]
 refine (wpAny_bind (wpAny_pure (wpAny_throw ?_)))
 refine (wpAny_bind (wpAny_isInstance (T:="StopIteration") (b:=true) ⟨_,Heap.get?_push_size _ rfl,rfl⟩ isSubtype_stop ?_))
 exact wpAny_pure (q _ (((Heap.SameBut.update ..).extBut.push _).push _))
theorem YF {d:Addr} {es:Array DictEntry} {ep:Nat} (nS:(d == sysModules)=false):PySem.W.KdlSrc prog w "dict" d d es.size (fun i v=>∃ e,es[i]?=some e/\v=e.key) (fun h=>GK h d es ep) where
 type:=fun _ R=>R.typ
 there:=fun _ R=>let ⟨_,e,_⟩:=R; ⟨Heap.lt_size e,Heap.lt_size e⟩
 keep:=fun _ _ R hk=>let ⟨o,e,r⟩:=R; ⟨o,hk d (.inl rfl) o e,r⟩
 notList:=by decide
 notTuple:=by decide
 hint:=fun _ _ _ _ R q=>PySem.W.kdl_hint_dict R.typ q
 iter:=fun A s hh R=>by
   have lt:d<s.heap.objs.size:=let ⟨_,e,_⟩:=R; Heap.lt_size e
   have ne:d≠s.heap.objs.size:=Nat.ne_of_lt lt
   refine ⟨_,fun i h=>h.IsKeyIter s.heap.objs.size d i es.size ep/\GK h d es ep,(fun _ _ q=>Ue nS R q),⟨fun b hb=>by simp at hb; simp [hb],fun i h h' st hk=>?_,fun i s' Q E hi st q=>?_,fun s' Q E st q=>?_,fun i s' Q E st q=>wpAny_pyIter_keyiter st.1 q⟩,⟨⟨_,Heap.get?_push_size _ rfl,rfl,rfl⟩,let ⟨o,e,r⟩:=R; ⟨o,Heap.get?_push_of_some _ e,r⟩⟩⟩
   . obtain ⟨⟨o,e,r⟩,⟨o2,e2,r2⟩⟩:=st
     exact ⟨⟨o,hk _ (by simp) o e,r⟩,⟨o2,hk d (by simp) o2 e2,r2⟩⟩
   . refine Ug st.1 st.2 hi fun h' K' sb=>?_
     exact q _ h' s'.toks ⟨es[i],by simp [hi],rfl⟩ ⟨K',let ⟨o,e,r⟩:=st.2; ⟨o,sb.extBut d o ne e,r⟩⟩ fun b o hb e=>sb.extBut b o (fun z=>hb (by simp [z])) e
   . exact YD hh st.1 st.2 fun h' he=>q h' s'.toks fun b o hb e=>he b o (fun z=>hb (by simp [z])) e
end
end L2
namespace L2
open PySem PySem.Spec PyProof.Rows PySem.W
def ou {α:Type} (n:Nat) (lt:Nat->Nat->Bool):KasT α->Option α
 | .ret a=>some a
 | .ask i j k=>if i<n/\j<n then ou n lt (k (lt i j)) else none
theorem DK {α:Type} {n:Nat} {lt:Nat->Nat->Bool} {ask:Nat->Nat->(Bool->Shared->Prop)->Shared->Prop} {s:Shared} (ha:∀ i j C,i<n->j<n->C (lt i j) s->ask i j C s):∀ (t:KasT α) (a:α) (Q:α->Shared->Prop),ou n lt t=some a->Q a s->t.kasWp ask Q s
 | .ret b,a,Q,h,q=>by
   cases (show some b=some a from h)
   exact q
 | .ask i j k,a,Q,h,q=>by
   have h':(if i<n/\j<n then ou n lt (k (lt i j)) else none)=some a:=h
   by_cases c:i<n/\j<n
   . rw [if_pos c] at h'
     exact ha i j _ c.1 c.2 (DK ha (k (lt i j)) a Q h' q)
   . rw [if_neg c] at h'; cases h'
theorem DN {α:Type} {n:Nat} {lt lt':Nat->Nat->Bool} (h:∀ i j,i<n->j<n->lt i j=lt' i j):∀ t:KasT α,ou n lt t=ou n lt' t
 | .ret _=>rfl
 | .ask i j k=>by
   show (if i<n/\j<n then ou n lt (k (lt i j)) else none)=if i<n/\j<n then ou n lt' (k (lt' i j)) else none
   by_cases c:i<n/\j<n
   . rw [if_pos c,if_pos c,h i j c.1 c.2]; exact DN h _
   . rw [if_neg c,if_neg c]
def rk (r:List Nat) (i j:Nat):Bool:=decide (r.getD i 0<r.getD j 0)
def GP (n:Nat) (r:List Nat):Bool:=match ou n (rk r) (kas_sort n) with
 | some p=>(p.toList.map fun i=>r.getD i 0) == List.range n && p.toList.all fun i=>decide (i<n)
 | none=>false
def GQ (x:Nat):List Nat->List (List Nat)
 | []=>[[x]]
 | y :: l=>(x :: y :: l) :: (GQ x l).map (y :: ·)
def perms:List Nat->List (List Nat)
 | []=>[[]]
 | x :: l=>(perms l).flatMap (GQ x)
theorem wG (x:Nat):∀ (a b:List Nat),a++x :: b∈GQ x (a++b)
 | [],[]=>List.mem_cons_self
 | [],_ :: _=>List.mem_cons_self
 | y :: a,b=>List.mem_cons_of_mem _ (List.mem_map.mpr ⟨_,wG x a b,rfl⟩)
theorem zL:∀ (l l':List Nat),l'.Perm l->l'∈perms l
 | [],l',h=>by rw [List.Perm.eq_nil h]; exact List.mem_cons_self
 | x :: l,l',h=>by
   obtain ⟨a,b,rfl⟩:=List.append_of_mem (h.mem_iff.mpr List.mem_cons_self)
   have h2:(a++b).Perm l:=(List.perm_middle.symm.trans h).cons_inv
   exact List.mem_flatMap.mpr ⟨a++b,zL l _ h2,wG x a b⟩
theorem YG:((List.range 7).all fun n=>n<2 || (perms (List.range n)).all (GP n))=true:=by decide +kernel
theorem P0 {n:Nat} {r:List Nat} (h2:2<=n) (h6:n<=6) (hr:r.Perm (List.range n)):GP n r=true:=by
 have h:=List.all_eq_true.mp YG n (List.mem_range.mpr (by omega))
 rw [Bool.or_eq_true] at h
 rcases h with h | h
 . have:=of_decide_eq_true h; omega
 . exact List.all_eq_true.mp h r (zL _ _ hr)
structure Strict {κ:Type} (lt:κ->κ->Bool):Prop where
 irr:∀ a,lt a a=false
 trans:∀ a b c,lt a b=true->lt b c=true->lt a c=true
 tot:∀ a b,a≠b->lt a b=true∨lt b a=true
section
variable {κ:Type} {lt:κ->κ->Bool} (S:Strict lt)
include S
def rankOf (lt:κ->κ->Bool) (ks:List κ) (k:κ):Nat:=ks.countP fun k'=>lt k' k
omit S in
theorem zM {p q:κ->Bool} {ks:List κ} (h:∀ x∈ks,p x=true->q x=true) {z:κ} (hz:z∈ks) (h1:p z=false) (h2:q z=true):ks.countP p<ks.countP q:=by
 induction ks with
 | nil=>cases hz
 | cons x l ih =>
   have hl:l.countP p<=l.countP q:=List.countP_mono_left fun y hy=>h y (List.mem_cons_of_mem _ hy)
   rcases List.mem_cons.mp hz with e | e
   . subst e
     rw [List.countP_cons,List.countP_cons,h1,h2]
     simp; omega
   . have hlt:=ih (fun y hy=>h y (List.mem_cons_of_mem _ hy)) e
     rw [List.countP_cons,List.countP_cons]
     cases hp:p x with
     | false=>simp; omega
     | true=>rw [h x List.mem_cons_self hp]; simp; omega
theorem vP {ks:List κ} {a b:κ} (ha:a∈ks) (h:lt a b=true):rankOf lt ks a<rankOf lt ks b :=
 zM (fun x _ hx=>S.trans _ _ _ hx h) ha (S.irr a) h
theorem DP {ks:List κ} {a b:κ} (ha:a∈ks) (hb:b∈ks):decide (rankOf lt ks a<rankOf lt ks b)=lt a b:=by
 cases h:lt a b with
 | true=>exact decide_eq_true (vP S ha h)
 | false =>
   refine decide_eq_false fun z=>?_
   rcases Classical.em (a=b) with e | e
   . subst e; omega
   . rcases S.tot a b e with q | q
     . rw [h] at q; cases q
     . have:=vP S hb q; omega
theorem GR {ks:List κ} {a:κ} (ha:a∈ks):rankOf lt ks a<ks.length:=by
 have h:=zM (p:=fun k'=>lt k' a) (q:=fun _=>true) (ks:=ks) (fun _ _ _=>rfl) ha (S.irr a) rfl
 rw [List.countP_true] at h
 exact h
theorem GX {ks:List κ} (hn:ks.Nodup):(ks.map (rankOf lt ks)).Perm (List.range ks.length):=by
 have nd:(ks.map (rankOf lt ks)).Nodup:=by
   rw [List.nodup_iff_pairwise_ne,List.pairwise_map]
   refine List.Pairwise.imp_of_mem (fun {a b} ha hb h=>?_) (List.nodup_iff_pairwise_ne.mp hn)
   intro z
   rcases S.tot a b h with q | q
   . have:=vP S ha q; omega
   . have:=vP S hb q; omega
 have sub:(ks.map (rankOf lt ks)) ⊆ List.range ks.length:=fun x hx=>by
   obtain ⟨k,hk,rfl⟩:=List.mem_map.mp hx
   exact List.mem_range.mpr (GR S hk)
 rw [List.perm_ext_iff_of_nodup nd List.nodup_range]
 intro x
 constructor
 . exact fun h=>sub h
 . intro h
   apply Classical.byContradiction
   intro hx
   have h1:(x :: ks.map (rankOf lt ks)).Nodup:=List.nodup_cons.mpr ⟨hx,nd⟩
   have h2:(x :: ks.map (rankOf lt ks)) ⊆ List.range ks.length:=fun y hy=>by
     rcases List.mem_cons.mp hy with e | e
     . rw [e]; exact h
     . exact sub e
   have:=h1.length_le_of_subset h2
   rw [List.length_cons,List.length_map,List.length_range] at this
   omega
theorem Qa {ks:List κ} (hn:ks.Nodup) (h2:2<=ks.length) (h6:ks.length<=6) (d:κ) :
   ∃ p:Array Nat,ou ks.length (fun i j=>lt (ks.getD i d) (ks.getD j d)) (kas_sort ks.length)=some p/\(p.toList.map fun i=>ks.getD i d).Perm ks/\(p.toList.map fun i=>ks.getD i d).Pairwise (fun a b=>lt a b=true)/\∀ i∈p.toList,i<ks.length:=by
 have hp:=GX S hn
 have hc:=P0 h2 h6 hp
 have at':∀ i,i<ks.length->(ks.map (rankOf lt ks)).getD i 0=rankOf lt ks (ks.getD i d):=fun i hi=>by
   simp [List.getD,List.getElem?_map,List.getElem?_eq_getElem hi]
 have mem:∀ i,i<ks.length->ks.getD i d∈ks:=fun i hi=>by
   simp only [List.getD,List.getElem?_eq_getElem hi,Option.getD_some]
   exact List.getElem_mem hi
 have e:ou ks.length (fun i j=>lt (ks.getD i d) (ks.getD j d)) (kas_sort ks.length)=ou ks.length (rk (ks.map (rankOf lt ks))) (kas_sort ks.length):=DN (fun i j hi hj=>by
   unfold rk
   rw [at' i hi,at' j hj,DP S (mem i hi) (mem j hj)]) _
 unfold GP at hc
 rw [<- e] at hc
 cases hr:ou ks.length (fun i j=>lt (ks.getD i d) (ks.getD j d)) (kas_sort ks.length) with
 | none=>rw [hr] at hc; cases hc
 | some p =>
   rw [hr] at hc
   have hc':=Bool.and_eq_true_iff.mp hc
   have h1:(p.toList.map fun i=>(ks.map (rankOf lt ks)).getD i 0)=List.range ks.length:=by simpa using hc'.1
   have hb:∀ i∈p.toList,i<ks.length:=fun i hi=>of_decide_eq_true (List.all_eq_true.mp hc'.2 i hi)
   have h1':(p.toList.map fun i=>rankOf lt ks (ks.getD i d))=List.range ks.length:=by
     rw [<- h1]
     exact List.map_congr_left fun i hi=>(at' i (hb i hi)).symm
   have pw:(p.toList.map fun i=>ks.getD i d).Pairwise (fun a b=>lt a b=true):=by
     have h3:(p.toList.map fun i=>rankOf lt ks (ks.getD i d)).Pairwise (·<·):=by rw [h1']; exact List.pairwise_lt_range
     rw [List.pairwise_map] at h3 ⊢
     refine List.Pairwise.imp_of_mem (fun {a b} ha hb' h=>?_) h3
     rw [<- DP S (mem a (hb a ha)) (mem b (hb b hb'))]
     exact decide_eq_true h
   refine ⟨p,rfl,?_,pw,hb⟩
   have nd:(p.toList.map fun i=>ks.getD i d).Nodup:=by
     rw [List.nodup_iff_pairwise_ne]
     refine pw.imp fun {a b} h z=>?_
     subst z
     rw [S.irr] at h; cases h
   rw [List.perm_ext_iff_of_nodup nd hn]
   have sub:(p.toList.map fun i=>ks.getD i d) ⊆ ks:=fun x hx=>by
     obtain ⟨i,hi,rfl⟩:=List.mem_map.mp hx
     exact mem i (hb i hi)
   have len:(p.toList.map fun i=>ks.getD i d).length=ks.length:=by
     have:=congrArg List.length h1'
     rw [List.length_map,List.length_range] at this
     rw [List.length_map]; exact this
   intro x
   constructor
   . exact fun h=>sub h
   . intro h
     apply Classical.byContradiction
     intro hx
     have q1:(x :: p.toList.map fun i=>ks.getD i d).Nodup:=List.nodup_cons.mpr ⟨hx,nd⟩
     have q2:(x :: p.toList.map fun i=>ks.getD i d) ⊆ ks:=fun y hy=>by
       rcases List.mem_cons.mp hy with e | e
       . rw [e]; exact h
       . exact sub e
     have:=q1.length_le_of_subset q2
     rw [List.length_cons,len] at this
     omega
end
end L2
namespace L2
open PySem PySem.Spec PyProof.Rows PySem.W
def slt (a b:Str):Bool:=decide (a.cps.toList<b.cps.toList)
theorem Uh {a b:Str} (h:a.cps.toList=b.cps.toList):a=b:=by
 cases a; cases b
 congr 1
 exact Array.toList_inj.mp h
theorem m5:Strict slt where
 irr:=fun a=>decide_eq_false (List.lt_irrefl _)
 trans:=fun a b c h1 h2=>decide_eq_true (List.lt_trans (of_decide_eq_true h1) (of_decide_eq_true h2))
 tot:=fun a b h=>by
   rcases Classical.em (a.cps.toList<b.cps.toList) with q | q
   . exact .inl (decide_eq_true q)
   . rcases Classical.em (b.cps.toList<a.cps.toList) with q2 | q2
     . exact .inr (decide_eq_true q2)
     . exact absurd (Uh (List.le_antisymm q2 q)) h
def wH (a b:Str × Str):Bool:=if a.1=b.1 then (if a.2=b.2 then false else slt a.2 b.2) else slt a.1 b.1
theorem wI:Strict wH where
 irr:=fun a=>by unfold wH; simp
 trans:=fun a b c h1 h2=>by
   unfold wH at h1 h2 ⊢
   have T:=m5.trans
   have R:=m5.irr
   by_cases e1:a.1=b.1
   . rw [if_pos e1] at h1
     by_cases e2:b.1=c.1
     . rw [if_pos e2] at h2
       rw [if_pos (e1.trans e2)]
       by_cases f1:a.2=b.2
       . rw [if_pos f1] at h1; cases h1
       . rw [if_neg f1] at h1
         by_cases f2:b.2=c.2
         . rw [if_pos f2] at h2; cases h2
         . rw [if_neg f2] at h2
           have h3:=T _ _ _ h1 h2
           rw [if_neg (fun z=>by rw [z,R] at h3; cases h3)]
           exact h3
     . rw [if_neg e2] at h2
       rw [if_neg (fun z=>e2 (e1.symm.trans z)),e1]
       exact h2
   . rw [if_neg e1] at h1
     by_cases e2:b.1=c.1
     . rw [if_neg (fun z=>e1 (z.trans e2.symm)),<- e2]
       exact h1
     . rw [if_neg e2] at h2
       have h3:=T _ _ _ h1 h2
       rw [if_neg (fun z=>by rw [z,R] at h3; cases h3)]
       exact h3
 tot:=fun a b h=>by
   unfold wH
   by_cases e:a.1=b.1
   . have f:a.2≠b.2:=fun z=>h (Prod.ext e z)
     rw [if_pos e,if_neg f,if_pos e.symm,if_neg (Ne.symm f)]
     exact m5.tot _ _ f
   . rw [if_neg e,if_neg (Ne.symm e)]
     exact m5.tot _ _ e
def wJ (h:Heap) (a:Addr) (v:Value) (k:Str × Str):Prop:=∃ b o m t u,v=.ref b/\b≠a/\h.get? b=some o/\o.cls=.type "tuple"/\o.data=.seq #[.str k.1 t,.str k.2 u] m
inductive fX (h:Heap) (a:Addr):List Value->List (Str × Str)->Prop
 | nil:fX h a [] []
 | cons {v:Value} {vs:List Value} {k:Str × Str} {ks:List (Str × Str)}:wJ h a v k->fX h a vs ks->fX h a (v :: vs) (k :: ks)
theorem fX.len {h:Heap} {a:Addr} {vs:List Value} {ks:List (Str × Str)} (p:fX h a vs ks):vs.length=ks.length:=by
 induction p with
 | nil=>rfl
 | cons _ _ ih=>rw [List.length_cons,List.length_cons,ih]
theorem fX.get {h:Heap} {a:Addr} {vs:List Value} {ks:List (Str × Str)} (p:fX h a vs ks):∀ i,i<ks.length->wJ h a (vs.getD i Value.none) (ks.getD i (default,default)):=by
 induction p with
 | nil=>intro i hi; cases hi
 | cons q _ ih =>
   intro i hi
   cases i with
   | zero=>exact q
   | succ i=>exact ih i (Nat.lt_of_succ_lt_succ hi)
theorem fX.keep {h h':Heap} {a:Addr} {vs:List Value} {ks:List (Str × Str)} (p:fX h a vs ks) (k:∀ b o,b≠a->h.get? b=some o->h'.get? b=some o):fX h' a vs ks:=by
 induction p with
 | nil=>exact .nil
 | cons q _ ih =>
   obtain ⟨b,o,m,t,u,e,n,g,r⟩:=q
   exact .cons ⟨b,o,m,t,u,e,n,k b o n g,r⟩ ih
section
variable {prog:Program} {w:World} {A:Around} {E:Value->Shared->Prop} {s:Shared}
theorem Ui {a:Addr} {v v':Value} {k k':Str × Str} {Q:Bool->Shared->Prop} (p:wJ s.heap a v k) (p':wJ s.heap a v' k') (q:Q (wH k k') s):wpAny (model prog w) A (keyLt' (tuples' true) v v') Q E s:=by
 obtain ⟨b,o,m,t,u,rfl,_,g,c,d⟩:=p
 obtain ⟨b',o',m',t',u',rfl,_,g',c',d'⟩:=p'
 refine kat_lt g d g' d' ?_
 show KatLex prog w A true (decide (2<2)) Q [(.str k.1 t,.str k'.1 t'),(.str k.2 u,.str k'.2 u')] 0 s
 unfold wH at q
 refine kat_cons ((bT prog w).eqBool (jy _ _ _ _) (jy _ _ _ _) ?_)
 by_cases e:k.1=k'.1
 . rw [if_pos e] at q
   rw [show decide ((Sum.inr k.1:Key)=Sum.inr k'.1)=true from decide_eq_true (by rw [e])]
   refine kat_yes (kat_cons ((bT prog w).eqBool (jy _ _ _ _) (jy _ _ _ _) ?_))
   by_cases f:k.2=k'.2
   . rw [if_pos f] at q
     rw [show decide ((Sum.inr k.2:Key)=Sum.inr k'.2)=true from decide_eq_true (by rw [f])]
     exact kat_yes (kat_nil q)
   . rw [if_neg f] at q
     rw [show decide ((Sum.inr k.2:Key)=Sum.inr k'.2)=false from decide_eq_false (fun z=>f (Sum.inr.inj z))]
     refine kat_no ?_
     show wpAny _ A (oneLt' false _ _) Q _ s
     exact kat_one _ _ (PySem.P.lt_str q)
 . rw [if_neg e] at q
   rw [show decide ((Sum.inr k.1:Key)=Sum.inr k'.1)=false from decide_eq_false (fun z=>e (Sum.inr.inj z))]
   refine kat_no ?_
   show wpAny _ A (oneLt' true _ _) Q _ s
   exact oneLt_str q
theorem Lw {h:Heap} {a:Addr} {vs:List Value} {ks:List (Str × Str)} (p:fX h a vs ks):∃ fs,KatTups h vs fs/\fs.length=ks.length/\∀ v∈fs,∃ x t,v=Value.str x t:=by
 induction p with
 | nil=>exact ⟨[],.nil,rfl,fun v h=>by cases h⟩
 | cons q _ ih =>
   obtain ⟨fs,h1,h2,h3⟩:=ih
   obtain ⟨b,o,m,t,u,rfl,_,g,c,d⟩:=q
   refine ⟨.str _ t :: fs,.cons g c d (by rfl) h1,by rw [List.length_cons,List.length_cons,h2],fun v hv=>?_⟩
   rcases List.mem_cons.mp hv with e | e
   . exact ⟨_,_,e⟩
   . exact h3 v e
theorem Lx {a:Addr} {vs:List Value} {ks:List (Str × Str)} {n:Nat} {P:Fin->Shared->Prop} (ho:s.heap.get? a=some (seqObj "list" vs.toArray n)) (hp:fX s.heap a vs ks) (hn:ks.Nodup) (h6:ks.length<=6)
   (h:∀ (l:List Nat),(∀ i∈l,i<ks.length)->(l.map fun i=>ks.getD i (default,default)).Perm ks->(l.map fun i=>ks.getD i (default,default)).Pairwise (fun x y=>wH x y=true)->P (.done (.ret .none)) { s with heap:=sortedHeap s.heap a vs (l.map fun i=>vs.getD i Value.none).toArray }) :
   wpAny (model prog w) A (Builtin.«list.sort» ⟨[.ref a],[]⟩) P E s:=by
 have mR:sizeLine=16777216:=sizeLine_eq
 have len:=hp.len
 rw [list_sort_plain]
 have la:a<s.heap.objs.size:=Heap.lt_size ho
 refine wpAny_bind (listItems_at ho rfl (wpAny_bind (listUpdate_at ho rfl ?_ (by rw [List.size_toArray]; omega) (Nat.zero_le _))))
 obtain ⟨e1,g1⟩:∃ e1,(s.heap.update a (Obj.mapSeq fun _=>#[])).get? a=some (seqObj "list" #[] e1):=⟨_,get?_update_seq ho (fun _=>#[])⟩
 refine wpAny_bind (seqEpoch_at g1 rfl (wpAny_bind (wpAny_newTuple ?_ (by simp; omega))))
 refine wpAny_bind (wpAny_newList ?_ (Nat.zero_le _))
 refine wpAny_holding ?_
 have g6:(((s.heap.update a (Obj.mapSeq fun _=>#[])).push (seqObj "tuple" vs.toArray 0)).push (seqObj "list" #[] 0)).get? a=some (seqObj "list" #[] e1):=Heap.get?_push_of_some _ (Heap.get?_push_of_some _ g1)
 have kk:∀ b o,b≠a->s.heap.get? b=some o->(((s.heap.update a (Obj.mapSeq fun _=>#[])).push (seqObj "tuple" vs.toArray 0)).push (seqObj "list" #[] 0)).get? b=some o:=fun b o nb e =>
   Heap.get?_push_of_some _ (Heap.get?_push_of_some _ (((Heap.SameBut.update s.heap a _).2 b nb).trans e))
 show wpAny (model prog w) A _ P E { s with heap:=((s.heap.update a (Obj.mapSeq fun _=>#[])).push (seqObj "tuple" vs.toArray 0)).push (seqObj "list" #[] 0) }
 dsimp only
 have sz:vs.toArray.size=vs.length:=by simp
 by_cases c2:vs.toArray.size<2
 . rw [if_pos c2,if_pos c2]
   refine wpAny_bind (wpAny_pure ?_)
   rw [StateT.run_pure]
   refine wpAny_bind (wpAny_pure ?_)
   dsimp only
   refine wpAny_bind (seqEpoch_at g6 rfl ?_)
   have em:((vs.toArray.zip vs.toArray).map (·.2))=vs.toArray:=by
     apply Array.toList_inj.mp
     rw [Array.toList_map,Array.toList_zip]
     exact List.map_snd_zip (Nat.le_refl _)
   refine wpAny_bind (listUpdate_at g6 rfl ?_ (Nat.zero_le _) (by show ((vs.toArray.zip vs.toArray).map (·.2)).size<=_; rw [em,sz]; omega))
   simp only [bne_self_eq_false,Bool.false_eq_true,if_false]
   refine wpAny_pure ?_
   show P _ { s with heap:=sortedHeap s.heap a vs ((vs.toArray.zip vs.toArray).map (·.2)) }
   rw [em]
   have all:∀ {α:Type} (xs:List α) (d:α),((List.range xs.length).map fun i=>xs.getD i d)=xs:=fun xs d=>by
     apply List.ext_getElem
     . simp
     . intro i h1 h2
       simp [List.getD,h2]
   have fin:=h (List.range ks.length) (fun i hi=>List.mem_range.mp hi) (by rw [all]) (by
     rw [all]
     match ks,len with
     | [],_=>exact List.Pairwise.nil
     | [_],_=>exact List.pairwise_singleton _ _
     | _ :: _ :: _,len=>rw [sz,len,List.length_cons,List.length_cons] at c2; omega)
   rw [<- len,all] at fin
   exact fin
 . rw [if_neg c2,if_neg c2]
   have p6:=hp.keep kk
   obtain ⟨fs,t1,t2,t3⟩:=Lw p6
   obtain ⟨p,r1,r2,r3,r4⟩:=Qa wI hn (by omega) h6 (default,default)
   refine wpAny_bind (kat_kind (T:=.type "str") t1 (by omega) (fun v hv=>?_) rfl ?_)
   . obtain ⟨x,t,rfl⟩:=t3 v hv
     exact .now
   . refine wpAny_bind (wpAny_mono (kat_run (ks:=vs) (vs:=vs) (κ:=tuples' true) (Q:=fun st' s'=>s'={ s with heap:=((s.heap.update a (Obj.mapSeq fun _=>#[])).push (seqObj "tuple" vs.toArray 0)).push (seqObj "list" #[] 0) }/\arrOf st'=p.map (kas_item (vs.toArray.zip vs.toArray))/\failedOf st'=none/\p.size=vs.length)
       (G:=fun p' s'=>p'=p/\s'={ s with heap:=((s.heap.update a (Obj.mapSeq fun _=>#[])).push (seqObj "tuple" vs.toArray 0)).push (seqObj "list" #[] 0) }) rfl (by omega) (by omega) (fun p' st' s' q1 q2 q3 ⟨q4,q5⟩=>by subst q4; exact ⟨q5,q2,q3,q1⟩)
       (DK (n:=ks.length) (lt:=fun i j=>wH (ks.getD i (default,default)) (ks.getD j (default,default))) (fun i j C hi hj hC=>Ui (p6.get i hi) (p6.get j hj) hC) _ p _ (by rw [len]; exact r1) ⟨rfl,rfl⟩)) ?_ fun _ _ e=>e)
     rintro ⟨⟨⟩,st'⟩ s' ⟨rfl,har,hf,hsz⟩
     dsimp only
     have em:=kat_snds (vs:=vs) rfl har
     refine wpAny_bind (seqEpoch_at g6 rfl ?_)
     have psz:p.toList.length=vs.length:=by rw [Array.length_toList]; exact hsz
     refine wpAny_bind (listUpdate_at g6 rfl ?_ (Nat.zero_le _) (by rw [em,List.size_toArray,List.length_map,psz]; omega))
     rw [hf]
     simp only [bne_self_eq_false,Bool.false_eq_true,if_false]
     refine wpAny_pure ?_
     show P _ { s with heap:=sortedHeap s.heap a vs ((arrOf st').map (·.2)) }
     rw [em]
     exact h p.toList r4 r2 r3
theorem GZ {x:Value} {ks:List (Str × Str)} {T:List Value->Prop} {Q:Value->Shared->Prop} (hn:ks.Nodup) (h6:ks.length<=6)
   (col:∀ (R:List Value->Shared->Prop),(∀ (h':Heap) (tk:Nat) (vs:List Value),(∀ b o,s.heap.get? b=some o->h'.get? b=some o)->fX h' h'.objs.size vs ks->T vs->R vs { s with heap:=h',toks:=tk })->wpAny (model prog w) A.in1 (collect x) R E s)
   (h:∀ (h1 h':Heap) (tk:Nat) (vs:List Value) (l:List Nat) (n:Nat),(∀ b o,s.heap.get? b=some o->h1.get? b=some o)->(∀ b o,h1.get? b=some o->h'.get? b=some o)->T vs->vs.length=ks.length->h'.get? h1.objs.size=some (seqObj "list" (l.map fun i=>vs.getD i Value.none).toArray n) ->
     (∀ i∈l,i<ks.length)->(l.map fun i=>ks.getD i (default,default)).Perm ks->(l.map fun i=>ks.getD i (default,default)).Pairwise (fun x y=>wH x y=true)->Q (.ref h1.objs.size) { s with heap:=h',toks:=tk }) :
   wpAny (model prog w) A (call (.builtin "sorted") [x]) Q E s:=by
 refine (Calls.call_function_entry kind_sorted plain_sorted entry_sorted (args_sorted1 _) ?_)
 unfold Builtin.«sorted»
 refine (wpAny_bind (m:=checkCount "sorted" 1 1 _) (wpAny_pure ?_))
 refine wpAny_bind (col _ fun h' tk vs kk hS hT=>?_)
 have hl:=hS.len
 have mR:sizeLine=16777216:=sizeLine_eq
 refine wpAny_bind (wpAny_newList ?_ (by omega))
 have g0:(h'.push (seqObj "list" vs.toArray 0)).get? h'.objs.size=some (seqObj "list" vs.toArray 0):=Heap.get?_push_size _ rfl
 refine wpAny_bind (wpAny_holding (wpAny_call_entry slot_list_sort (s:={ s with heap:=h'.push (seqObj "list" vs.toArray 0),toks:=tk }) ⟨_,g0,rfl⟩ entry_list_sort
   (Lx (s:={ s with heap:=h'.push (seqObj "list" vs.toArray 0),toks:=tk }) g0 (hS.keep fun b o _ e=>Heap.get?_push_of_some _ e) hn h6 fun l l1 l2 l3=>⟨_,rfl,?_⟩) (args_list_sort _)))
 obtain ⟨n,gn⟩:=sortedHeap_at (vs:=vs) (out:=(l.map fun i=>vs.getD i Value.none).toArray) g0
 refine wpAny_pure ⟨_,rfl,h h' _ tk vs l n kk (fun b o e1=>?_) hT hl gn l1 l2 l3⟩
 have lt:b<h'.objs.size:=Heap.lt_size e1
 show (sortedHeap (h'.push (seqObj "list" vs.toArray 0)) h'.objs.size vs _).get? b=some o
 rw [sortedHeap_old (Nat.ne_of_lt lt) (by rw [Heap.size_push]; exact Nat.lt_succ_of_lt lt)]
 exact Heap.get?_push_of_some _ e1
end
def kP (k:Str × Str):List Key:=[Sum.inr k.1,Sum.inr k.2]
theorem YH {a b:Str × Str} (h:kP a=kP b):a=b:=by
 unfold kP at h
 injection h with h1 h2
 injection h2 with h2 _
 exact Prod.ext (Sum.inr.inj h1) (Sum.inr.inj h2)
section
variable {X:Cx}
theorem wK {α β:Type} {F:α->β->Prop}:∀ {l₁:List α} {l₂:List β},Paired F l₁ l₂->∀ {i:Nat} {b:β},l₂[i]?=some b->∃ a,l₁[i]?=some a/\F a b
 | _,_,.nil,i,b,e=>by simp at e
 | _,_,.cons h r,i,b,e=>by
   cases i with
   | zero=>cases (show some _=some b from e); exact ⟨_,rfl,h⟩
   | succ i=>exact wK r (by simpa using e)
theorem u6 {H:Hp}:∀ {kvs:List (List Key × V)} {xs:List (List Key × Addr × Value)},Paired (fun (p:List Key × V) (q:List Key × Addr × Value)=>p.1=q.1/\H q.2.1=some (.tup (p.1.map kV))/\RelV p.2 q.2.2) kvs xs->kvs.map (·.1)=xs.map (·.1)
 | _,_,.nil=>rfl
 | _,_,.cons h r=>by rw [List.map_cons,List.map_cons,h.1,u6 r]
theorem DQ {h:Heap} {a:Addr}:∀ {vs:List Value} {ks:List (Str × Str)},vs.length=ks.length->(∀ i,i<ks.length->wJ h a (vs.getD i Value.none) (ks.getD i (default,default)))->fX h a vs ks
 | [],[],_,_=>.nil
 | v :: vs,k :: ks,hl,f=>.cons (f 0 (Nat.succ_pos _)) (DQ (by simpa using hl) fun i hi=>f (i+1) (Nat.succ_lt_succ hi))
 | [],_ :: _,hl,_=>by simp at hl
 | _ :: _,[],hl,_=>by simp at hl
theorem Bo (hc:X.calm=true):gU X (.builtin "sorted") (fun xs H Q=>∃ (p:Addr) (kvs:List (List Key × V)) (ks:List (Str × Str)),xs=[.ref p]/\H p=some (.dT kvs)/\kvs.map (·.1)=ks.map kP/\ks.length<=6 /\
   ∀ (l:Addr) (as:List Addr) (ks':List (Str × Str)),H l=none->ks'.Perm ks->ks'.Pairwise (fun x y=>wH x y=true)->as.length=ks'.length->(∀ (i:Nat) (a:Addr) (k:Str × Str),as[i]?=some a->ks'[i]?=some k->H a=some (.tup ((kP k).map kV)))->Q (.ref l) (upd H l (.lst (as.map V.ref)))):=by
 intro pins s σ H xs us Q I r h
 obtain ⟨p,kvs,ks,rfl,hp,hk,h6,q⟩:=h
 obtain ⟨u,rfl,ru⟩:=vals1 r
 cases ru
 obtain ⟨z,d,xs,rel,o,es,ep,g1,g2,g3,g4,g5⟩:=(show dZ X.prog X.w H s.heap p (.dT kvs) from I.hok p _ hp)
 have hkx:xs.map (·.1)=ks.map kP:=by
   rw [<- hk]
   exact (u6 rel).symm
 have hn:ks.Nodup:=by
   rw [hkx] at g5
   rw [List.nodup_iff_pairwise_ne] at g5 ⊢
   rw [List.pairwise_map] at g5
   exact g5.imp fun {a b} h e=>h (by rw [e])
 have hxl:xs.length=ks.length:=by have:=congrArg List.length hkx; simpa using this
 have afh:es.size=ks.length:=by rw [<- Array.length_toList,g4,List.length_map,hxl]
 have mR:sizeLine=16777216:=sizeLine_eq
 have fact:∀ i,i<ks.length->(es[i]?).map (·.key)=some (Value.ref (xs.map (·.2.1))[i]!)/\H (xs.map (·.2.1))[i]! = some (.tup ((kP (ks.getD i (default,default))).map kV)):=fun i hi=>by
   have ex:xs[i]?=some xs[i]:=List.getElem?_eq_getElem (by omega)
   obtain ⟨kv,ekv,e1,e2,_⟩:=wK rel ex
   have ea:(xs.map (·.2.1))[i]! = xs[i].2.1:=by
     rw [List.getElem!_eq_getElem?_getD,List.getElem?_map,ex]; rfl
   rw [ea]
   refine ⟨?_,?_⟩
   . rw [<- Array.getElem?_toList,g4,List.getElem?_map,ex]; rfl
   . rw [e1] at e2
     have e3:(xs.map (·.1))[i]?=some xs[i].1:=by rw [List.getElem?_map,ex]; rfl
     rw [hkx,List.getElem?_map,List.getElem?_eq_getElem hi] at e3
     have e4:kP ks[i]=xs[i].1:=Option.some.inj e3
     have e5:ks.getD i (default,default)=ks[i]:=by simp [List.getD,hi]
     rw [e5,e4]; exact e2
 refine GZ (T:=fun vs=>∀ i,i<ks.length->vs.getD i Value.none=.ref (xs.map (·.2.1))[i]!) hn h6 (fun R hR=>PySem.W.kdu_collect (A:=X.A.in1) (YF (es:=es) (ep:=ep) d) (by simpa using I.ok.hd hc) ⟨o,g1,g2,g3⟩ (by omega) fun h' tk acc kk hacc=>?_) fun h1 h' tk vs l n k1 k2 hT hvl ho l1 l2 l3=>?_
 . have al:acc.toList.length=ks.length:=by rw [Array.length_toList]; exact hacc.1.trans afh
   have at':∀ i,i<ks.length->acc.toList.getD i Value.none=.ref (xs.map (·.2.1))[i]!:=fun i hi=>by
     have e1:acc.toList[i]?=some acc.toList[i]:=List.getElem?_eq_getElem (by omega)
     obtain ⟨e,ee,ev⟩:=hacc.2 i acc.toList[i] (by rw [<- Array.getElem?_toList]; exact e1)
     have f:=(fact i hi).1
     rw [ee] at f
     have f':e.key=Value.ref (xs.map (·.2.1))[i]!:=Option.some.inj f
     simp only [List.getD,e1,Option.getD_some]
     rw [ev,f']
   refine hR h' tk acc.toList kk (DQ al fun i hi=>?_) at'
   rw [at' i hi]
   obtain ⟨_,its,rv,ob,e1,e2,⟨m,e3⟩,_⟩:=(show dZ X.prog X.w H s.heap _ (.tup ((kP (ks.getD i (default,default))).map kV)) from I.hok _ _ (fact i hi).2)
   have g:=kk _ _ e1
   obtain ⟨v1,v2,rfl,r1,r2⟩:=vals2 (show Vals [V.str _,V.str _] its from rv)
   obtain ⟨t1,rfl⟩:=r1
   obtain ⟨t2,rfl⟩:=r2
   exact ⟨_,ob,m,t1,t2,rfl,Nat.ne_of_lt (Heap.lt_size g),g,e2,e3⟩
 . have I1:Inv X pins σ H { s with heap:=h1,toks:=tk }:=I.kept k1
   have ll:l.length=ks.length:=by have:=l2.length_eq; simpa using this
   have eo:(l.map fun i=>vs.getD i Value.none)=(l.map fun i=>(xs.map (·.2.1))[i]!).map Value.ref:=by
     rw [List.map_map]
     exact List.map_congr_left fun i hi=>hT i (l1 i hi)
   refine ⟨.ref h1.objs.size,_,I1.laid (t':=tk) (o:=.lst ((l.map fun i=>(xs.map (·.2.1))[i]!).map V.ref)) k2 (Nat.le_refl _) ⟨by rw [List.length_map,List.length_map]; omega,(l.map fun i=>(xs.map (·.2.1))[i]!).map Value.ref,n,?_,by rw [<- eo]; exact ho⟩,rfl,
     q _ _ _ (I1.hok.fresh (Nat.le_refl _)) l2 l3 (by simp) fun j a k ea ek=>?_⟩
   . generalize (l.map fun i=>(xs.map (·.2.1))[i]!)=ys
     induction ys with
     | nil=>exact .nil
     | cons y ys ih=>exact .cons rfl ih
   . rw [List.getElem?_map] at ea ek
     cases ej:l[j]? with
     | none=>rw [ej] at ea; cases ea
     | some i =>
       rw [ej] at ea ek
       cases (show some _=some a from ea)
       cases (show some _=some k from ek)
       exact (fact i (l1 i (List.mem_of_getElem? ej))).2
end
end L2
namespace L2
open PySem PySem.Spec PyProof.Rows
def Qc:List Str->List Str->Bool
 | [],[]=>false
 | [],_ :: _=>true
 | _ :: _,[]=>false
 | x :: xs,y :: ys=>if x=y then Qc xs ys else slt x y
section
open PySem.SeqAt
open PySem.AutoSeq1 (wpAny_loadPart')
open PySem.MeetsSeq PySem.MeetsSeq2 PySem.MeetsSeq3
theorem yV (l b:Addr) (xs ys:Array Value) (n n2:Nat) (dd dd2:Option Addr) (sl sl2:Array (Option Value)) (ss tt:List Str) (hi:StrsAre xs.toList ss) (hj:StrsAre ys.toList tt) :
   Meets (Builtin.«tuple.__lt__» ⟨[.ref l,.ref b],[]⟩)
     (fun _ R s=>s.heap.get? l=some { cls:=.type "tuple",dict:=dd,data:=.seq xs n,slots:=sl }/\s.heap.get? b=some { cls:=.type "tuple",dict:=dd2,data:=.seq ys n2,slots:=sl2 }/\R (.ok (.ret (.bool (Qc ss tt)))) s) :=
 .of_wp fun prog w A R s h=>by
   obtain ⟨hp,g,d,tk,os⟩:=s
   obtain ⟨hl,hb,h⟩:=h
   have f2:=AutoSeq1.sub_tuple_tuple
   have z1:xs.size=ss.length:=by rw [<- Array.length_toList,<- hi.strs,List.length_map]
   have z2:ys.size=tt.length:=by rw [<- Array.length_toList,<- hj.strs,List.length_map]
   wp_walk using wpAny_loadPart' hl,wpAny_loadPart' hb,wpAny_forIn_list _ (fun rest b s'=>b.1=none/\s'=⟨hp,g,d,tk,os⟩/\∃ (vs ws:List Value) (ss' tt':List Str),rest=vs.zip ws/\StrsAre vs ss'/\StrsAre ws tt'/\ss'.length+ys.size=tt'.length+xs.size/\R (.ok (.ret (.bool (Qc ss' tt')))) ⟨hp,g,d,tk,os⟩) _
   case turn =>
     rintro ⟨y,x⟩ rest b s' ⟨hb',rfl,vs,ws,ss',tt',hz,hv,hw,len,hR⟩
     cases hv with
     | nil=>rw [List.zip_nil_left] at hz; cases hz
     | cons a t hv' =>
       cases hw with
       | nil=>rw [List.zip_nil_right] at hz; cases hz
       | cons c u hw' =>
         rw [List.zip_cons_cons] at hz
         injection hz with q1 q2
         injection q1 with q3 q4
         subst q3 q4
         have hR':R (.ok (.ret (.bool (if a=c then Qc _ _ else slt a c)))) ⟨hp,g,d,tk,os⟩:=hR
         simp only [List.length_cons] at len
         obtain ⟨e,he,hiff⟩:∃ e,SeqAt.EqAt A.in1 ⟨hp,g,d,tk,os⟩ (.str a t) (.str c u) e/\(e=true↔a=c):=⟨(a == c),SeqAt.EqAt.str_str a t c u,by simp⟩
         refine wpAny_bind (he prog w _ _ ?_)
         cases e with
         | true =>
           rw [if_pos (hiff.mp rfl)] at hR'
           wp_walk
           exact ⟨rfl,rfl,_,_,_,_,q2,hv',hw',by omega,hR'⟩
         | false =>
           rw [if_neg (fun q=>absurd (hiff.mpr q) Bool.false_ne_true)] at hR'
           have hri:∀ (E:Value->Shared->Prop) (Q:Value->Shared->Prop),Q (.bool (slt a c)) ⟨hp,g,d,tk,os⟩->wpAny (model prog w) A.in1 (richCompare .Lt (.str a t) (.str c u)) Q E ⟨hp,g,d,tk,os⟩:=fun E Q h=>PySem.P.lt_str h
           wp_walk using hri
           exact ⟨_,rfl,by simpa using hR'⟩
   case fin =>
     rintro ⟨b1,b2⟩ s' ⟨hb',rfl,vs,ws,ss',tt',hz,hv,hw,len,hR⟩
     simp only at hb'
     subst hb'
     have e:Qc ss' tt'=decide (xs.size<ys.size):=by
       cases hv with
       | nil =>
         cases hw with
         | nil=>simp only [List.length_nil] at len; exact (decide_eq_false (by omega)).symm
         | cons c u _=>simp only [List.length_nil,List.length_cons] at len; exact (decide_eq_true (by omega)).symm
       | cons a t _ =>
         cases hw with
         | nil=>simp only [List.length_nil,List.length_cons] at len; exact (decide_eq_false (by omega)).symm
         | cons c u _=>rw [List.zip_cons_cons] at hz; cases hz
     rw [e] at hR
     wp_walk
     exact ⟨_,rfl,by simpa [Builtin.Tuple.tupleCompareSizes] using hR⟩
   case h=>exact ⟨rfl,rfl,xs.toList,ys.toList,ss,tt,rfl,hi,hj,by omega,h⟩
end
def Wy (K:PySem.W.Frag):R2:=fun x y H Q=>(∃ i j,x=.int i/\y=.int j/\Q (.bl (decide (i<j))) H)∨∃ a b k k',x=.ref a/\y=.ref b/\bU K H a ((kP k).map kV)/\bU K H b ((kP k').map kV)/\Q (.bl (wH k k')) H
theorem Uj {X:Cx} (hu:X.A.units<cLine):iD X (compareOp .Lt) (Wy X.K):=by
 intro pins s σ H x y v u Q I rx ry h
 rcases h with ⟨i,j,rfl,rfl,q⟩ | ⟨a,b,k,k',rfl,rfl,ha,hb,q⟩
 . exact Wm pins s σ H _ _ v u Q I rx ry ⟨i,j,rfl,rfl,q⟩
 . cases (show v=Value.ref a from rx)
   cases (show u=Value.ref b from ry)
   obtain ⟨its,r1,p1,_⟩:=I.tuple ha
   obtain ⟨its2,r2,p2,_⟩:=I.tuple hb
   have i1:StrsAre its.toArray.toList [k.1,k.2]:=vJ (ys:=[k.1,k.2]) (by have r':Vals [V.str k.1,V.str k.2] its:=r1; simpa using r')
   have i2:StrsAre its2.toArray.toList [k'.1,k'.2]:=vJ (ys:=[k'.1,k'.2]) (by have r':Vals [V.str k'.1,V.str k'.2] its2:=r2; simpa using r')
   obtain ⟨⟨cls,dd,data,sl⟩,g1,c1,n1,d1⟩:=id p1
   obtain ⟨⟨cls2,dd2,data2,sl2⟩,g2,c2,n2,d2⟩:=id p2
   simp only at c1 d1 c2 d2
   subst c1 d1 c2 d2
   refine richCompare_meets_room (op:=.Lt) ⟨_,g1,rfl⟩ ⟨_,g2,rfl⟩ PySem.F.slot_tuple_lt PySem.F.entry_tuple_lt (PySem.F.args_tuple_lt_2 _ _) (yV a b its.toArray its2.toArray n1 n2 dd dd2 sl sl2 _ _ i1 i2)
     ⟨g1,g2,show Value.bool (wH k k')≠Value.notImplemented/\EP X pins σ Q (.bool (wH k k')) s from ⟨(fun x=>nomatch x),⟨.bl (wH k k'),H,I,rfl,q⟩⟩⟩ hu
end L2
namespace L2
open PySem PySem.Spec PyProof.Rows
def fO (H H':Hp):Prop:=∀ b xs,H b=some (.tup xs)->H' b=some (.tup xs)
theorem fO.refl (H:Hp):fO H H:=fun _ _ h=>h
theorem fO.trans {H H1 H2:Hp} (a:fO H H1) (b:fO H1 H2):fO H H2:=fun c o h=>b c o (a c o h)
theorem Same.tups {H H':Hp} (s:Same H H'):fO H H':=fun b _ e=>s b _ e
theorem fO.new {H H1:Hp} {p:Addr} {o:HO} (s:fO H H1) (h:H1 p=none):fO H (upd H1 p o):=fun b u e=>by rw [aL (aM (s b u e) h)]; exact s b u e
theorem fO.put {H H1:Hp} {p:Addr} {o u:HO} (s:fO H H1) (h:H1 p=some u) (nt:∀ xs,u≠.tup xs):fO H (upd H1 p o):=fun b xs e=>by
 have e1:=s b xs e
 have ne:b≠p:=fun z=>by subst z; rw [h] at e1; exact nt xs (Option.some.inj e1)
 rw [aL ne]; exact e1
theorem eE.more {H1 H H':Hp} {D:Addr} {ys:List V} (G:eE H1 H D ys) (s:Same H H'):eE H1 H' D ys:=⟨s _ _ G.at',G.same.trans s⟩
theorem bf {α β:Type} {F:α->β->Prop}:∀ {l₁:List α} {l₂:List β},Paired F l₁ l₂->∀ {i:Nat} {a:α},l₁[i]?=some a->∃ b,l₂[i]?=some b/\F a b
 | _,_,.nil,i,b,e=>by simp at e
 | _,_,.cons h r,i,b,e=>by
   cases i with
   | zero=>cases (show some _=some b from e); exact ⟨_,rfl,h⟩
   | succ i=>exact bf r (by simpa using e)
theorem aK {α β:Type} {F G:α->β->Prop} (f:∀ a b,F a b->G a b):∀ {l₁:List α} {l₂:List β},Paired F l₁ l₂->Paired G l₁ l₂
 | _,_,.nil=>.nil
 | _,_,.cons h r=>.cons (f _ _ h) (aK f r)
theorem cQ {α β:Type} {F:α->β->Prop}:∀ {l₁ m₁:List α} {l₂ m₂:List β},Paired F l₁ l₂->Paired F m₁ m₂->Paired F (l₁++m₁) (l₂++m₂)
 | _,_,_,_,.nil,q=>q
 | _,_,_,_,.cons h r,q=>.cons h (cQ r q)
theorem oW {α β:Type} {F:α->β->Prop}:∀ {l₁:List α} {l₂:List β} (n:Nat),Paired F l₁ l₂->Paired F (l₁.take n) (l₂.take n)
 | _,_,0,_=>by rw [List.take_zero,List.take_zero]; exact .nil
 | _,_,n+1,.nil=>.nil
 | _,_,n+1,.cons h r=>.cons h (oW n r)
section
variable {g:BI->TG} {te:BI->TE} {σ0:St} {D:Addr} {End:Hp->Prop} {H1:Hp}
theorem comp_map {K:PySem.W.Frag} {a:Addr} {xs:List V} {ys:List V} (hD:H1 D=none) (hT:bU K H1 a xs) (hz:xs.length<=sizeLine) (hl:ys.length=xs.length)
   (turn:∀ (i:Nat) (x:V) (H':Hp),xs[i]?=some x->Same H1 H'->∀ b (R:VK),(∀ fP y,ys[i]?=some y->Same H' fP->R y fP)->g b x σ0 H' fun σ2 H2=>te b σ2 H2 R)
   (fin:∀ H',Same H1 H'->H' D=some (.lst ys)->End H') :
   ∃ W:Nat->Nat->Hp->Prop,(∃ m,W 0 m (upd H1 D (.lst [])))/\∀ b,oU (Td K a) (g b) (Bg) (qm D (te b)) σ0 End W :=
 rR (xs:=xs) (fun i H'=>eE H1 H' D (ys.take i)) (eE.start hD) (fun i H' _ G=>G.same.tup hT) (fun H' G=>fin H' G.same (by have e:=G.at'; rw [<- hl,List.take_length] at e; exact e)) (fun i x H' hx hi G b =>
   turn i x H' hx G.same b _ fun fP y hy s=>⟨_,(G.more s).at',by rw [List.length_take]; omega,nx hi (by
     show eE H1 _ D (ys.take (i+1))
     rw [List.take_add_one,hy]
     exact (G.more s).put hD _)⟩)
end
def NxS (n i:Nat) (Pv:Nat->St->Hp->Prop) (σ:St) (H:Hp):Prop:=∃ m',m'<n-i/\(m'=n-(i+1)/\i+1<=n/\Pv (i+1) σ H)
theorem nxs {n i:Nat} {Pv:Nat->St->Hp->Prop} {σ:St} {H:Hp} (hi:i<n) (h:Pv (i+1) σ H):NxS n i Pv σ H:=⟨n-(i+1),by omega,rfl,hi,h⟩
def WS (n:Nat) (Pv:Nat->St->Hp->Prop):Nat->Nat->St->Hp->Prop:=fun i m σ H=>m=n-i/\i<=n/\Pv i σ H
section
variable {g:TG} {act:vD} {End:St->Hp->Prop}
theorem Wz {J:It} (n:Nat) (Pv:Nat->St->Hp->Prop) (stop:∀ σ H,Pv n σ H->J.stop n H/\End σ H)
   (turn:∀ i σ H,i<n->Pv i σ H->J.go i H/\∀ x H',J.Oq i H x H'->g x σ H' fun σ2 H2=>act σ2 H2 (NxS n i Pv)):CT J g Bg act End (WS n Pv):=by
 intro i m σ H ⟨hm,hi,p⟩
 subst hm
 by_cases hlt:i<n
 . exact .inr ⟨(turn i σ H hlt p).1,fun x H' y=>(turn i σ H hlt p).2 x H' y⟩
 . have e:i=n:=by omega
   subst e
   exact .inl (stop σ H p)
theorem Bp {K:PySem.W.Frag} {a:Addr} {xs:List V} (Pv:Nat->St->Hp->Prop) (hl:∀ i σ H,i<=xs.length->Pv i σ H->bU K H a xs) (stop:∀ σ H,Pv xs.length σ H->End σ H)
   (turn:∀ i x σ H,xs[i]?=some x->i<xs.length->Pv i σ H->g x σ H fun σ2 H2=>act σ2 H2 (NxS xs.length i Pv)):CT (Td K a) g Bg act End (WS xs.length Pv) :=
 Wz xs.length Pv (fun σ H p=>⟨⟨xs,hl _ σ H (Nat.le_refl _) p,Nat.le_refl _⟩,stop σ H p⟩) fun i σ H hi p =>
   ⟨⟨xs,xs[i],hl i σ H (Nat.le_of_lt hi) p,by simp [hi]⟩,fun x H' ⟨e,y⟩=>by subst e; exact turn i x σ _ (y xs (hl i σ _ (Nat.le_of_lt hi) p)) hi p⟩
theorem JK {K:PySem.W.Frag} {a:Addr} {xs:List V} (Pv:Nat->St->Hp->Prop) (hl:∀ i σ H,i<=xs.length->Pv i σ H->dw K H a xs) (stop:∀ σ H,Pv xs.length σ H->End σ H)
   (turn:∀ i x σ H,xs[i]?=some x->i<xs.length->Pv i σ H->g x σ H fun σ2 H2=>act σ2 H2 (NxS xs.length i Pv)):CT (Wk K a) g Bg act End (WS xs.length Pv) :=
 Wz xs.length Pv (fun σ H p=>⟨⟨xs,hl _ σ H (Nat.le_refl _) p,Nat.le_refl _⟩,stop σ H p⟩) fun i σ H hi p =>
   ⟨⟨xs,xs[i],hl i σ H (Nat.le_of_lt hi) p,by simp [hi]⟩,fun x H' ⟨e,y⟩=>by subst e; exact turn i x σ _ (y xs (hl i σ _ (Nat.le_of_lt hi) p)) hi p⟩
theorem ws0 {n:Nat} {Pv:Nat->St->Hp->Prop} {σ:St} {H:Hp} (h:Pv 0 σ H):∃ m,WS n Pv 0 m σ H:=⟨n,rfl,Nat.zero_le _,h⟩
end
end L2
namespace HT
open PySem PySem.Spec PyProof.Rows
section
variable {prog:Program} {w:World} {A:Around} {E:Value->Shared->Prop} {s:Shared}
theorem Qd {t b:Addr} {ws:List Value} {Q:Value->Shared->Prop} (ht:IsTup s.heap t (#[]:Array Value)) (hb:IsTup s.heap b ws.toArray)
   (h1:Q (.ref b) s):wpAny (model prog w) A (binaryOp .Add (.ref t) (.ref b)) Q E s:=by
 obtain ⟨⟨cls,dd,data,sl⟩,ho,hc,n,hd⟩:=id ht
 obtain ⟨⟨cls2,dd2,data2,sl2⟩,ho2,hc2,n2,hd2⟩:=id hb
 simp only at hc hd hc2 hd2
 subst hc hd hc2 hd2
 exact concat_meets ⟨_,ho,rfl⟩ ⟨_,ho2,rfl⟩ noFill_tuple_add seq_tuple_add PySem.F.slot_tuple_add PySem.F.entry_tuple_add (PySem.F.args_tuple_add_2 _ _)
     (tuple_addW0 t b #[] ws.toArray n n2 dd dd2 sl sl2 (by simp)) ⟨ho,ho2,h1⟩
theorem qp {t sl:Addr} {items:Array Value} {vl vu:Value} {lo hi:Option Int} {Q:Value->Shared->Prop} (ht:IsTup s.heap t items) (hs:s.heap.IsSliceOf sl vl vu .none) (pl:IsPart vl lo) (pu:IsPart vu hi)
   (hw:fG items.size 0 lo=0/\fG items.size items.size hi=items.size)
   (h:Q (.ref t) s):wpAny (model prog w) A (getItem (.ref t) (.ref sl)) Q E s:=by
 obtain ⟨os,hos,hcs,hds⟩:=id hs
 have hTs:s.TypeIs (.ref sl) "slice":=⟨os,hos,hcs⟩
 unfold getItem
 try with_reducible refine wpAny_holding ?_
 first | refine wpAny_bind (wpAny_pure ?_) | skip
 refine wpAny_bind (wpAny_sequenceKey ht.typeIs (by decide) ?_)
 refine wpAny_bind (wpAny_callSpecial?_slot (name:=Str.ofString "__getitem__") ht.typeIs PyProof.Rows.slot_tuple_getitem
   (wpAny_call_entry PyProof.Rows.slot_tuple_getitem ht.typeIs entry_tuple_getitem ?_ (args_tuple_getitem _ _)))
 show wpAny _ _ (Builtin.Tuple.tupleItemsOf (.ref t) >>= _) _ _ s
 refine wpAny_bind (tupleItemsOf_ ht ?_)
 refine wpAny_bind (wpAny_typeOf hTs ?_)
 rw [if_pos (by decide)]
 refine wpAny_bind (lQ hs pl pu ?_)
 have hyes:((((fG items.size 0 lo:Nat):Int) == 0 && (1:Int) == 1 && (fG items.size items.size hi-fG items.size 0 lo) == items.size)=true):=by
   rw [hw.1,hw.2]; simp
 show wpAny _ _ (if (((fG items.size 0 lo:Nat):Int) == 0 && (1:Int) == 1 && (fG items.size items.size hi-fG items.size 0 lo) == items.size)=true then _ else _) _ _ s
 rw [if_pos hyes]
 unfold Builtin.Tuple.tupleIsExact
 refine wpAny_bind ?_
 refine wpAny_bind (wpAny_typeOf ht.typeIs ?_)
 refine wpAny_pure ?_
 rw [if_pos (by decide)]
 refine wpAny_bind (wpAny_rule ?_)
 exact wpAny_pure ⟨_,rfl,wpAny_pure h⟩
end
end HT
namespace L2
open PySem PySem.Spec PyProof.Rows
section
variable {X:Cx}
structure Qe (x y:V) (H:Hp) (Q:VK):Prop where
 h:∃ a b xs ys,x=.ref a/\y=.ref b/\H a=some (.tup xs)/\H b=some (.tup ys)/\xs.length+ys.length<=sizeLine/\∀ p H',H' p=some (.tup (xs++ys))->Same H H'->Q (.ref p) H'
theorem rT:iD X (binaryOp .Add) Qe:=by
 intro pins s σ H x y v u Q I rx ry ⟨h⟩
 obtain ⟨a,b,xs,ys,rfl,rfl,ha,hb,hz,q⟩:=h
 by_cases hx:xs=[]
 . subst hx
   cases rx
   cases ry
   obtain ⟨its,r1,p1,_⟩:=I.tuple (bU.of ha)
   obtain ⟨its2,r2,p2,_⟩:=I.tuple (bU.of hb)
   have e:its=[]:=r1.pL.mpr rfl
   subst e
   exact HT.Qd p1 p2 ⟨.ref b,H,I,rfl,q b H hb (Same.refl H)⟩
 . refine Tz pins s σ H _ _ v u Q I rx ry ⟨a,b,xs,ys,rfl,rfl,bU.of ha,bU.of hb,hx,hz,fun e=>?_,fun _ p hp=>q p _ ao ((Same.refl H).upd hp)⟩
   subst e
   exact q a H (by rw [List.append_nil]; exact ha) (Same.refl H)
structure SlA (x:V) (lo hi:Option Int) (H:Hp) (Q:VK):Prop where
 h:∃ a xs,x=.ref a/\H a=some (.tup xs)/\∀ p H',H' p=some (.tup (jP xs lo hi))->Same H H'->Q (.ref p) H'
theorem DR:X7 X SlA:=by
 intro pins s σ H x v vl vu lo hi sl Q I rx hs pl pu ⟨h⟩
 obtain ⟨a,xs,rfl,ha,q⟩:=h
 by_cases hw:HT.fG xs.length 0 lo=0/\HT.fG xs.length xs.length hi=xs.length
 . cases rx
   obtain ⟨its,r,ht,hz⟩:=I.tuple (bU.of ha)
   have hlen:its.toArray.size=xs.length:=by rw [List.size_toArray]; exact r.length.symm
   refine ⟨"tuple",_,PyProof.Rows.slot_tuple_getitem.lookup,ht.typeIs,?_⟩
   refine HT.qp ht hs pl pu (by rw [hlen]; exact hw) ⟨.ref a,H,I,rfl,q a H ?_ (Same.refl H)⟩
   rw [ha]
   unfold jP
   rw [hw.1,hw.2,List.drop_zero,Nat.sub_zero,List.take_length]
 . exact O1 pins s σ H _ v vl vu lo hi sl Q I rx hs pl pu ⟨a,xs,rfl,bU.of ha,hw,fun p hp=>q p _ ao ((Same.refl H).upd hp)⟩
end
end L2
namespace HT
open PySem PySem.Spec PyProof.Rows
section
variable {prog:Program} {w:World} {A:Around} {E:Value->Shared->Prop} {s:Shared}
end
end HT
namespace L2
open PySem PySem.Spec PyProof.Rows
section
variable {X:Cx}
end
end L2
namespace HT
open PySem PySem.Spec PyProof.Rows
theorem Bq (l b:Addr) (items:Array Value) (n n2:Nat) (dd dd2:Option Addr) (sl sl2:Array (Option Value)) :
   Meets (Builtin.«tuple.__ne__» ⟨[.ref l,.ref b],[]⟩) (fun _ R s=>s.heap.get? l=some { cls:=.type "tuple",dict:=dd,data:=.seq items n,slots:=sl }/\s.heap.get? b=some { cls:=.type "tuple",dict:=dd2,data:=.seq #[] n2,slots:=sl2 }/\R (.ok (.ret (Value.bool (!items.isEmpty)))) s) :=
 .of_wp fun prog w A R s h=>by
   obtain ⟨hp,g,d,tk,os⟩:=s; obtain ⟨hl,hb,h⟩:=h; have f2:=AutoSeq1.sub_tuple_tuple
   obtain ⟨items⟩:=items
   cases items with
   | nil =>
     wp_walk using wpAny_loadPart' hl,wpAny_loadPart' hb
     exact ⟨_,rfl,h⟩
   | cons x xs =>
     wp_walk using wpAny_loadPart' hl,wpAny_loadPart' hb
     exact ⟨_,rfl,h⟩
section
variable {prog:Program} {w:World} {A:Around} {E:Value->Shared->Prop} {s:Shared}
theorem Hf {t b:Addr} {items:Array Value} {Q:Value->Shared->Prop} (ht:IsTup s.heap t items) (hb:IsTup s.heap b (#[]:Array Value)) (hu:A.units<cLine)
   (h:Q (.bool (!items.isEmpty)) s):wpAny (model prog w) A (compareOp .NotEq (.ref t) (.ref b)) Q E s:=by
 obtain ⟨⟨cls,dd,data,sl⟩,ho,hc,n,hd⟩:=id ht
 obtain ⟨⟨cls2,dd2,data2,sl2⟩,ho2,hc2,n2,hd2⟩:=id hb
 simp only at hc hd hc2 hd2
 subst hc hd hc2 hd2
 exact richCompare_meets_room (op:=.NotEq) ⟨_,ho,rfl⟩ ⟨_,ho2,rfl⟩ PySem.F.slot_tuple_ne PySem.F.entry_tuple_ne (PySem.F.args_tuple_ne_2 _ _) (Bq t b items n n2 dd dd2 sl sl2)
   ⟨ho,ho2,show Value.bool (!items.isEmpty)≠Value.notImplemented/\Q (.bool (!items.isEmpty)) s from ⟨(fun x=>nomatch x),h⟩⟩ hu
end
end HT
namespace L2
open PySem PySem.Spec PyProof.Rows
section
variable {X:Cx}
structure NeT (x y:V) (H:Hp) (Q:VK):Prop where
 h:∃ a b xs,x=.ref a/\y=.ref b/\H a=some (.tup xs)/\H b=some (.tup [])/\Q (.bl (!xs.isEmpty)) H
theorem abG (hu:X.A.units<cLine):iD X (compareOp .NotEq) NeT:=by
 intro pins s σ H x y v u Q I rx ry ⟨h⟩
 obtain ⟨a,b,xs,rfl,rfl,ha,hb,q⟩:=h
 cases rx
 cases ry
 obtain ⟨its,r1,p1,_⟩:=I.tuple (bU.of ha)
 obtain ⟨its2,r2,p2,_⟩:=I.tuple (bU.of hb)
 have e:its2=[]:=r2.pL.mpr rfl
 subst e
 refine HT.Hf p1 p2 hu ⟨.bl (!xs.isEmpty),H,I,?_,q⟩
 have e2:its.toArray.isEmpty=xs.isEmpty:=by
   have:=r1.pL
   cases xs <;> cases its <;> simp_all
 rw [e2]
 rfl
end
end L2
namespace L2
open PySem PySem.Spec PyProof.Rows
structure SE (X:Cx) (e:Expr) (t:TE):Prop where
 h:PE X e t
structure SA (X:Cx) (es:List Expr) (t:TA):Prop where
 h:PA X es t
structure SS (X:Cx) (s:Stmt) (t:TS):Prop where
 h:PS X s t
structure YJ (X:Cx) (s:List Stmt) (t:TS):Prop where
 h:Gn X s t
structure SI (X:Cx) (tg it:Expr) (t:TI):Prop where
 h:PI X tg it t
structure ST (X:Cx) (e:Expr) (t:TT):Prop where
 h:PT X e t
structure SW (X:Cx) (e:Expr) (t:TT):Prop where
 h:PW X e t
structure SG (X:Cx) (e:Expr) (t:TG):Prop where
 h:PG X e t
structure SGs (X:Cx) (e:List Expr) (t:Tc):Prop where
 h:PGs X e t
structure SO (X:Cx) (e:Option Expr) (t:TO):Prop where
 h:PO X e t
structure SIf (X:Cx) (e:List Expr) (t:TT):Prop where
 h:La X e t
structure SC (X:Cx) (op:CmpOp) (a b:Expr) (t:TE):Prop where
 h:PC X op a b t
structure RO (X:Cx) (f:Value->Value->Sem Value) (r:R2):Prop where
 h:iD X f r
structure RU (X:Cx) (f:Value->Sem Value) (r:V->Hp->VK->Prop):Prop where
 h:UnR X f r
structure RC (X:Cx) (f:Value) (r:List V->Hp->VK->Prop):Prop where
 h:gU X f r
structure RX (X:Cx) (r:R2):Prop where
 h:Wo X r
structure RL (X:Cx) (r:V->Option Int->Option Int->Hp->VK->Prop):Prop where
 h:X7 X r
section
variable {X:Cx} {e a b c o tg elt iter:Expr} {es rest':List Expr} {te ta tb to:TE} {t:TA} {pos p p2 pos' apos cpos spos:Pos} {st:Stmt} {rest:List Stmt} {ts u:TS} {tA Oa:TT} {lo hi:Option Expr} {tl th:TO} {x:Str} {id T:String} {name:Str}
 {scope gW:Scope} {own cap:List Str} {ix:List Nat} {wi:TI} {g:BI->TG} {tt:BI->TT} {tf:BI->TE} {ifs:List Expr} {i:Nat}
theorem dF:SA X [] Gv:=⟨ak⟩
theorem aV (ha:SE X e te) (hr:SA X es t) (hs:starEach (e :: es) X.env=(false,eval e X.env) :: starEach es X.env:=by rfl):SA X (e :: es) (oM te t):=⟨aj ha.h hr.h hs⟩
theorem qV (i:Nat) (hN:X.N[i]?=some x:=by rfl) (hv:Vis X.env.scope x:=by first | exact Or.inl rfl | exact Or.inr (Or.inl rfl) | exact Or.inr (Or.inr rfl)) (hd:(x == ("__debug__" : Str))=false:=by decide)
   (hcd:(x == ("__classdict__" : Str))=false:=by decide):SE X (.Name x pos) (tV i):=⟨pV i hN hv hd hcd⟩
theorem lJ {x1} (h:SA X es t):SE X (.Tuple es x1 pos) (Ax t):=⟨dD h.h⟩
theorem YK (h:SA X es t):SE X (.List es pos) (X3 t):=⟨gq h.h⟩
theorem eV {i j}:SE X (.Constant (.int i) j pos) (tC (.int i)):=⟨aA⟩
theorem jA {op:Operator} {r:R2} (ho:RO X (binaryOp op) r) (ha:SE X a ta) (hb:SE X b tb):SE X (.BinOp a op b pos) (Jm r ta tb):=⟨bK ho.h ha.h hb.h⟩
theorem JL {op:UnaryOp} {r:V->Hp->VK->Prop} (ho:RU X (unaryOp op) r) (ha:SE X a ta):SE X (.UnaryOp op a pos) (tUn r ta):=⟨Ow ho.h ha.h⟩
theorem JM {r:R2} (hr:RX X r) (ha:SE X a ta) (hb:SE X b tb) (hs:Ju b):SE X (.Subscript a b pos) (Jm r ta tb):=⟨bR hr.h ha.h hb.h hs⟩
theorem pP:SO X none mX:=⟨eY⟩
theorem qoI (h:SE X e te):SO X (some e) (wC te):=⟨yQ h.h⟩
theorem lW {r:V->Option Int->Option Int->Hp->VK->Prop} (hr:RL X r) (he:SE X e te) (hl:SO X lo tl) (hu:SO X hi th):SE X (.Subscript e (.Slice lo hi none p2) pos) (X8 r te tl th):=⟨cO hr.h he.h hl.h hu.h⟩
theorem rU {CX:KZ} {k:Nat} {f:Addr} {fd:FuncData} {ps:List Str} {sp:Sp} {ds:List Value} {OD:List V} {E:XK} (F:aQ X.prog X.w X.K X.mg X.base CX k f fd ps sp) (hr:lG k X.A) (hg:Gl X x) (hm:X.mg x=some (.ref f)) (hk:PySem.W.keepIn X.K (.ref f)=true) (hb:Binds X.K fd ps ds) (hd:Vals OD ds) (hx:Passes CX X E)
   (ha:SA X (e :: es) t) (hdb:(x == ("__debug__" : Str))=false:=by decide) (he:starEach (e :: es) X.env=(false,eval e X.env) :: starEach es X.env:=by rfl) (hpl:(backTo pos (starEach es X.env)).any (·.1)=false:=by rfl) :
   SE X (.Call (.Name x p) (e :: es) [] pos) (Wn sp OD E t):=⟨aD F hr hg hm hk hb hd hx ha.h hdb he hpl⟩
theorem iW {r:List V->Hp->VK->Prop} (hc:RC X (.builtin id) r) (hg:Gl X x) (hm:X.mg x=none) (hv:bootBuiltins x=some (.builtin id)) (ha:SA X (e :: es) t) (hn:x≠"__name__":=by decide) (hdb:(x == ("__debug__" : Str))=false:=by decide)
   (he:starEach (e :: es) X.env=(false,eval e X.env) :: starEach es X.env:=by rfl) (hpl:(backTo pos (starEach es X.env)).any (·.1)=false:=by rfl):SE X (.Call (.Name x p) (e :: es) [] pos) (tCB r t):=⟨aP hc.h hg hm hv ha.h hn hdb he hpl⟩
theorem Ly {r:List V->Hp->VK->Prop} (hc:RC X (.type T) r) (hg:Gl X x) (hm:X.mg x=none) (hv:bootBuiltins x=some (.type T)) (ha:SA X (e :: es) t) (hn:x≠"__name__":=by decide) (hdb:(x == ("__debug__" : Str))=false:=by decide)
   (he:starEach (e :: es) X.env=(false,eval e X.env) :: starEach es X.env:=by rfl) (hpl:(backTo pos (starEach es X.env)).any (·.1)=false:=by rfl):SE X (.Call (.Name x p) (e :: es) [] pos) (tCB r t):=⟨cZ hc.h hg hm hv ha.h hn hdb he hpl⟩
theorem Uk (hc:X.calm=true) (hX:X.env.scope=gW) (S:tU gW scope X.N own cap ix) (hi:SI X tg iter wi) (hg:∀ b,SG (blk X scope (own++cap) b) tg (g b)) (ht:∀ b,SIf (blk X scope (own++cap) b) ifs (tt b))
   (he:∀ b,SE (blk X scope (own++cap) b) elt (tf b)) (hs:∀ x,foldedSetIterable iter X.env x=pure x:=by intro _; rfl) :
   SE X (.ListComp elt [⟨tg,iter,ifs,0⟩] scope pos) (JC own ix wi g tt tf):=⟨cP hc hX S hi.h (fun b=>(hg b).h) (fun b=>(ht b).h) (fun b=>(he b).h) hs⟩
theorem Ul:SIf X [] Bg:=⟨bZ⟩
theorem YL {l:Expr} {tl:TE} (hl:SE X l tl):SI X tg l (aaZ X.K tl):=⟨cY hl.h⟩
theorem YM {op:CmpOp} {r:R2} (ho:RO X (compareOp op) r) (ha:SE X a ta) (hb:SE X b tb) (hm:behindInMarks op b=false):ST X (.Compare a [op] [b] pos) (tF (Jm r ta tb)):=⟨pN ho.h ha.h hb.h hm⟩
theorem YQ {op:CmpOp} {te:TE} (h:SC X op a b te) (h1:behindInMarks op b=false:=by first | exact Df _ (by decide) (by decide) | rfl):ST X (.Compare a [op] [b] pos) (tB te):=⟨vZ h.h h1⟩
theorem Um {j} (ha:SE X a ta):SC X .IsNot a (.Constant .none j pos') (Wh ta):=⟨Tq ha.h⟩
theorem JN (ha:ST X a tA):SW X (.BoolOp .And [a] pos) tA:=⟨pw_and1 ha.h⟩
theorem WD (ha:ST X a tA) (hb:SW X (.BoolOp .And (b :: rest') pos) Oa):ST X (.BoolOp .And (a :: b :: rest') pos) (Xq tA Oa):=⟨wA ha.h hb.h⟩
theorem gK {i:Nat} (hN:X.N.Nodup) (hi:X.N[i]?=some x) (hx:Loc X.env.scope x) (hf:X.fn x=true∨X.env.scope.names.lookup x=some .local:=by first | exact .inl rfl | exact .inr rfl | assumption):SG X (.Name x pos) (uZ i):=⟨aC hN hi hx hf⟩
theorem vQ:SGs X [] aaW:=⟨cN⟩
theorem fj {t:TG} {u:Tc} (h1:SG X e t) (h2:SGs X es u)
   (hs:(assignEach (e :: es) X.env).map (·.2)=assign e X.env :: (assignEach es X.env).map (·.2):=by rfl):SGs X (e :: es) (Wj t u):=⟨aH h1.h h2.h hs⟩
theorem Br {k:Nat} {t:Tc} {n:Nat} (hc:X.calm=true) (h:SGs X es t)
   (hn:(assignEach es X.env).length=n:=by rfl) (hst:(assignEach es X.env).findIdx? (·.1)=none:=by rfl):SG X (.Tuple es k pos) (aaX X.K n t):=⟨dU hc h.h hn hst⟩
theorem pQ:YJ X [] Wi:=⟨bH⟩
theorem dG {t:TS} (h1:SS X st t) (h2:YJ X rest u):YJ X (st :: rest) (oG t u):=⟨au h1.h h2.h⟩
theorem m6 {t:TS} (h1:SS X st t):YJ X [st] t:=⟨aF h1.h⟩
theorem jk {i:Nat} (hN:X.N.Nodup) (hi:X.N[i]?=some x) (hx:Loc X.env.scope x) (he:SE X e te) (hs:swapsWith e (some (.Name x pos')) pos.line X.env=pure false:=by rfl) (hf:X.fn x=true∨X.env.scope.names.lookup x=some .local:=by first | exact .inl rfl | exact .inr rfl | assumption) :
   SS X (.Assign [.Name x pos'] e pos) (qD te (uZ i)):=⟨aX hN hi hx he.h hs hf⟩
theorem Hg {g:TG} (he:SE X e te) (hg:SG X tg g) (hs:swapsWithSole [tg] e pos.line X.env=pure false:=by rfl) (hw:swappedStores [tg] e X.env=pure none:=by rfl)
   (h1:(assignEach [tg] X.env).map (·.2)=[assign tg X.env]:=by rfl):SS X (.Assign [tg] e pos) (qD te g):=⟨jZ he.h hg.h hs hw h1⟩
theorem Qf (he:SE X e te):SS X (.Return (some e) pos) (Xr te):=⟨aW he.h⟩
theorem zN {bs cs:List Stmt} {tc:TT} {t u:TS} (hc:ST X c tc) (ha:YJ X bs t) (hb:YJ X cs u):SS X (.If c bs cs pos) (Ar tc t u):=⟨dz hc.h ha.h hb.h⟩
end
end L2
namespace L2
open PySem PySem.Spec PyProof.Rows
section
variable {X:Cx}
end
end L2
namespace L2
open PySem PySem.Spec PyProof.Rows
section
variable {prog:Program} {w:World} {A:Around} {E:Value->Shared->Prop} {s:Shared} {z TI TO T i1 i2 l1 l2:Addr} {k1 k2:Nat} {xs ys:Array Value}
end
end L2
namespace L2
open PySem PySem.Spec PyProof.Rows
section
variable {X:Cx} {pins:List (Addr × Obj)} {σ:St} {H N:Hp} {s:Shared} {h':Heap}
end
end L2
namespace L2
open PySem PySem.Spec PyProof.Rows
section
variable {X:Cx} {elt kx vx tg iter:Expr} {ifs:List Expr} {scope gW:Scope} {pos:Pos} {own cap:List Str} {ix:List Nat} {wi:TI} {g:BI->TG} {tt:BI->TT} {tk tv:BI->TE}
end
end L2
namespace L2
open PySem PySem.Spec PyProof.Rows
section
variable {prog:Program} {w:World} {A:Around} {E:Value->Shared->Prop} {s:Shared}
end
end L2
namespace L2
open PySem PySem.Spec PyProof.Rows
section
variable {prog:Program} {w:World} {A:Around} {E:Value->Shared->Prop} {s:Shared}
variable {K:Type} [DecidableEq K] (knd:KeyKind prog w K)
end
section
variable {X:Cx}
end
end L2
namespace L2
open PySem PySem.Spec PyProof.Rows
section
variable {X:Cx} {pins:List (Addr × Obj)} {σ:St} {H:Hp} {s:Shared}
end
section
variable {H1:Hp} {D:Addr} {σ0:St} {g:BI->TG} {tt:BI->TT} {te:BI->TE} {End:Hp->Prop}
end
end L2
namespace HT
open PySem PySem.Spec PyProof.Rows
section
variable {prog:Program} {w:World} {A:Around} {E:Value->Shared->Prop} {s:Shared}
end
end HT
namespace L2
open PySem PySem.Spec PyProof.Rows
section
variable {X:Cx}
end
end L2
namespace L2
open PySem PySem.Spec PyProof.Rows
section
variable {X:Cx}
end
end L2
namespace L2
open PySem PySem.Spec PyProof.Rows
section
variable {prog:Program} {w:World} {A:Around} {E:Value->Shared->Prop} {s:Shared}
variable {K:Type} [DecidableEq K] (knd:KeyKind prog w K)
end
section
variable {X:Cx}
end
end L2
namespace HT
open PySem PySem.Spec PyProof.Rows
section
variable {prog:Program} {w:World} {A:Around} {E:Value->Shared->Prop} {s:Shared}
end
end HT
namespace L2
open PySem PySem.Spec PyProof.Rows
section
variable {X:Cx}
end
end L2
namespace L2
open PySem PySem.Spec PyProof.Rows
section
variable {X:Cx} {e e1 e2:Expr} {es:List Expr} {te:TE} {pos:Pos}
def afi (te:TE):TE:=fun σ H Q=>te σ H fun x H1=>(∃ z,x=.str z/\z.length<=sizeLine/\Q (.str z) H1)∨∃ i,x=.int i/\i.natAbs.log2<1920/\Q (.str (toString i)) H1
theorem lK (h:PE X e te):PE X (.FormattedValue e (-1) none pos) (afi te):=by
 intro pins s σ H Q I hq
 refine wpAny_FormattedValue_plain (d7 (h pins s σ H _ I hq) fun v s1 ⟨x,H1,I1,r1,q1⟩=>?_)
 rcases q1 with ⟨z,rfl,hz,q⟩ | ⟨i,rfl,hl,q⟩
 . obtain ⟨t,rfl⟩:=r1
   exact wpAny_formatField_str ⟨.str z,H1,I1,⟨t,rfl⟩,q⟩ ⟨.str z,H1,I1.tok _,⟨_,rfl⟩,q⟩ hz
 . obtain ⟨t,rfl⟩:=r1
   exact wpAny_formatField_int hl ⟨.str _,H1,I1.tok _,⟨_,rfl⟩,q⟩
abbrev TJ:=Str->St->Hp->(Str->Hp->Prop)->Prop
def tJ0:TJ:=fun acc _ H R=>R acc H
def tJ (te:TE) (tj:TJ):TJ:=fun acc σ H R=>te σ H fun x H1=>∃ z,x=.str z/\(acc++z).length<=sizeLine/\tj (acc++z) σ H1 R
def PJ (X:Cx) (es:List Expr) (tj:TJ):Prop:=∀ (pins:List (Addr × Obj)) (s:Shared) (σ:St) (H:Hp) (acc:Str) (R:Str->Hp->Prop),Inv X pins σ H s->tj acc σ H R->Joins (model X.prog X.w) X.A X.xe (evalEach es X.env) acc (fun out s1=>∃ H1,Inv X pins σ H1 s1/\R out H1) s
variable {tj:TJ}
theorem Hi:PJ X [] tJ0:=fun _ _ _ H _ _ I h=>⟨H,I,h⟩
theorem dB (h:PE X e te) (r:PJ X es tj):PJ X (e :: es) (tJ te tj):=by
 intro pins s σ H acc R I hq
 show wpAny _ _ (eval e X.env) _ _ _
 refine d7 (h pins s σ H _ I hq) fun v s1 ⟨x,H1,I1,r1,z,ez,hz,q⟩=>?_
 subst ez
 obtain ⟨t,rfl⟩:=r1
 exact ⟨z,t,rfl,hz,r pins s1 σ H1 _ R I1 q⟩
theorem wL {M:Model} {A:Around} {E:Value->Shared->Prop} {Q Q':Str->Shared->Prop} (w:∀ out s,Q out s->Q' out s):∀ (parts:List (Sem Value)) (acc:Str) (s:Shared),Joins M A E parts acc Q s->Joins M A E parts acc Q' s
 | [],acc,s,h=>w acc s h
 | x :: rest,acc,s,h=>d7 (show wpAny M A x _ E s from h) fun v s1 ⟨y,t,e,l,j⟩=>⟨y,t,e,l,wL w rest _ s1 j⟩
def tFs (tj:TJ):TE:=fun σ H Q=>tj Str.empty σ H fun z H1=>z.length<=sizeLine/\Q (.str z) H1
theorem Bs (h:PJ X (e1 :: e2 :: es) tj):PE X (.JoinedStr (e1 :: e2 :: es) pos) (tFs tj):=by
 intro pins s σ H Q I hq
 exact wpAny_JoinedStr (wL (fun out s1 ⟨H1,I1,l,q⟩=>⟨l,.str out,H1,I1.tok _,⟨_,rfl⟩,q⟩) _ _ _ (h pins s σ H _ _ I hq))
theorem zO:∀ (l:List (Str × Tok)),Vals ((l.map (·.1)).map V.str) (strValues l)
 | []=>.nil
 | p :: l=>.cons ⟨p.2,rfl⟩ (zO l)
theorem jB:MtR X "str.split" (fun x xs H Q=>∃ z y:Str,x=.str z/\xs=[.str y]/\(y.length == 0)=false/\z.length<=1000000/\∀ l,H l=none->Q (.ref l) (upd H l (.lst ((Txt.split z y).map V.str)))):=by
 intro pins s σ H x xs v us Q I rx rs h
 obtain ⟨z,y,rfl,rfl,hy,hz,q⟩:=h
 obtain ⟨t,rfl⟩:=rx
 obtain ⟨u,rfl,u',rfl⟩:=vals1 rs
 have mR:sizeLine=16777216:=sizeLine_eq
 have fresh:H s.heap.objs.size=none:=I.hok.fresh (Nat.le_refl _)
 have lsp:=split_le z y
 have fin:∀ (l:List (Str × Tok)) (k:Nat),s.toks<=k->l.map (·.1)=Txt.split z y->EP X pins σ Q (.ref s.heap.objs.size) { s with toks:=k,heap:=s.heap.push { cls:=.type "list",data:=.seq (strValues l).toArray } }:=fun l k hk e=>by
   refine ⟨.ref s.heap.objs.size,_,(I.laid (t':=k) (o:=.lst ((Txt.split z y).map V.str)) (fun _ _ e=>Heap.get?_push_of_some _ e) (Nat.le_refl _) ?_),rfl,q _ fresh⟩
   refine ⟨by rw [List.length_map]; omega,strValues l,_,by rw [<- e]; exact zO l,Heap.get?_push_size _ rfl⟩
 have hsz:z.length<=sizeLine:=by omega
 cases h1:(decide (z.length<y.length) || decide (Builtin.Str.strKind z<Builtin.Str.strKind y))
 . cases hf:(Builtin.Str.occurrences z y 0 z.length (z.length+1)).isEmpty
   . have e0:Txt.split z y=Builtin.Str.partsBetween z (Builtin.Str.occurrences z y 0 z.length (z.length+1)) y.length:=(if_neg (ne_true_of_eq_false h1)).trans (if_neg (ne_true_of_eq_false hf))
     refine call_meets PySem.F.slot_str_split (typeIs_str _ _ _) PySem.F.entry_str_split (PySem.F.args_str_split_2 _ _) (meets_str_split_sep z y t u' h1 hy hf hsz (by rw [<- e0]; omega)) ?_
     show wants _ _ _ { s with toks:=_,heap:=s.heap.push { cls:=.type "list",data:=.seq (strsFrom s.toks (Builtin.Str.partsBetween z (Builtin.Str.occurrences z y 0 z.length (z.length+1)) y.length)).toArray } }
     rw [strsFrom_eq]
     exact fin (numbered s.toks _) _ (Nat.le_add_right _ _) ((numbered_texts _ _).trans e0.symm)
   . exact call_meets PySem.F.slot_str_split (typeIs_str _ _ _) PySem.F.entry_str_split (PySem.F.args_str_split_2 _ _) (meets_str_split_not_found z y t u' h1 hy hf) (fin [(z,t)] s.toks (Nat.le_refl _) ((if_neg (ne_true_of_eq_false h1)).trans (if_pos hf)).symm)
 . exact call_meets PySem.F.slot_str_split (typeIs_str _ _ _) PySem.F.entry_str_split (PySem.F.args_str_split_2 _ _) (meets_str_split_cannot_occur z y t u' h1) (fin [(z,t)] s.toks (Nat.le_refl _) (if_pos h1).symm)
theorem yW:MtR X "str.startswith" (fun x xs H Q=>∃ z y:Str,x=.str z/\xs=[.str y]/\Q (.bl (Txt.startswith z y)) H):=by
 intro pins s σ H x xs v us Q I rx rs h
 obtain ⟨z,y,rfl,rfl,q⟩:=h
 obtain ⟨t,rfl⟩:=rx
 obtain ⟨u,rfl,u',rfl⟩:=vals1 rs
 exact SC.startswith ⟨.bl _,H,I,rfl,q⟩
theorem rW:MtR X "str.partition" (fun x xs H Q=>∃ z y:Str,x=.str z/\xs=[.str y]/\(y.length == 0)=false/\z.length<=1000000/\∀ p,H p=none->Q (.ref p) (upd H p (.tup [.str (Txt.partition z y).1,.str (Txt.partition z y).2.1,.str (Txt.partition z y).2.2]))):=by
 intro pins s σ H x xs v us Q I rx rs h
 obtain ⟨z,y,rfl,rfl,hy,hz,q⟩:=h
 obtain ⟨t,rfl⟩:=rx
 obtain ⟨u,rfl,u',rfl⟩:=vals1 rs
 have mR:sizeLine=16777216:=sizeLine_eq
 have fresh:H s.heap.objs.size=none:=I.hok.fresh (Nat.le_refl _)
 have fin:∀ (a b c:Str) (ta tb tc:Tok) (k:Nat),Txt.partition z y=(a,b,c)->EP X pins σ Q (.ref s.heap.objs.size) { s with toks:=k,heap:=s.heap.push { cls:=.type "tuple",data:=.seq [.str a ta,.str b tb,.str c tc].toArray } }:=fun a b c ta tb tc k e=>by
   have q1:=q _ fresh
   rw [e] at q1
   exact ⟨.ref s.heap.objs.size,_,I.laid (t':=k) (o:=.tup [.str a,.str b,.str c]) (fun _ _ e=>Heap.get?_push_of_some _ e) (Nat.le_refl _) ⟨by show 3<=sizeLine; omega,[.str a ta,.str b tb,.str c tc],.cons ⟨_,rfl⟩ (.cons ⟨_,rfl⟩ (.cons ⟨_,rfl⟩ .nil)),jY.new _ _⟩,rfl,q1⟩
 refine call_meets PySem.F.slot_str_partition (typeIs_str _ _ _) PySem.F.entry_str_partition (PySem.F.args_str_partition_2 _ _) (meets_str_partition z y t u' hy (by omega)) ?_
 have fin':=fin
 unfold Txt.partition at fin'
 revert fin'
 cases Builtin.Str.occurrences z y 0 z.length 1 with
 | nil=>intro f; exact f _ _ _ _ _ _ _ rfl
 | cons i r=>intro f; exact f _ _ _ _ _ _ _ rfl
theorem yX:gU X (.type "int") (fun xs H Q=>∃ (z:Str) (n:Int),xs=[.str z]/\PySem.intText? z=some n/\z.length<=640/\Q (.int n) H):=by
 intro pins s σ H xs us Q I r h
 obtain ⟨z,n,rfl,hn,hl,q⟩:=h
 obtain ⟨u,rfl,t,rfl⟩:=vals1 r
 exact PySem.W.KIN.call_text hn hl ⟨.int n,H,I.tok _,⟨_,rfl⟩,q⟩
theorem rY:gU X (.type "str") (fun xs H Q=>(∃ i,xs=[.int i]/\i.natAbs.log2<1920/\Q (.str (toString i)) H)∨∃ z,xs=[.str z]/\Q (.str z) H):=by
 intro pins s σ H xs us Q I r h
 rcases h with h | ⟨z,rfl,q⟩
 . exact Aw pins s σ H xs us Q I r h
 . obtain ⟨u,rfl,t,rfl⟩:=vals1 r
   exact PySem.P.str_of_str ⟨.str z,H,I,⟨t,rfl⟩,q⟩
def Ite (K:PySem.W.Frag) (a:Addr) (xs:List V):It :=
 ⟨fun i H=>dw K H a xs/\i<xs.length,fun i H v H'=>∃ T x,H T=none/\v=.ref T/\xs[i]?=some x/\H'=upd H T (.tup [.int (i:Int),x]),fun i H=>dw K H a xs/\xs.length<=i⟩
def YS (e it a:Addr) (i:Nat) (h:Heap):Prop:=(∃ old,IsEnum h e it (i:Int) old)/\h.IsListIter it a i
theorem Lz {P:Program} {w:World} {K:PySem.W.Frag} {elts:List Expr} {k:Nat} {pos:Pos} (e it a:Addr) (ne:e≠it) (xs:List V) :
   Turn P w K (.Tuple elts k pos) (Ite K a xs) [e,it] e (YS e it a) where
 mem:=by simp
 obj:=fun i h st c hc=>by
   obtain ⟨⟨old,he⟩,⟨o1,e1,c1,d1⟩⟩:=st
   simp only [List.mem_cons,List.not_mem_nil,or_false] at hc
   rcases hc with rfl | rfl
   . exact ⟨_,he,fun v z=>by cases (show Data.fields _=Data.cell v from z)⟩
   . exact ⟨o1,e1,fun v z=>by rw [d1] at z; cases z⟩
 keep:=fun i h h' st k=>by
   obtain ⟨⟨old,he⟩,h1⟩:=st
   exact ⟨⟨old,k e (by simp) _ he⟩,h1.at fun o q=>k it (by simp) o q⟩
 item:=by
   intro X hP hw hK hc i pins s σ H E I hf st hg
   subst hP hw hK
   obtain ⟨hq1,l1⟩:=hg
   obtain ⟨⟨old,he⟩,h1⟩:=st
   obtain ⟨PB,T9,Og,_⟩:=I.list hq1
   have x1:xs[i]?=some xs[i]:=List.getElem?_eq_getElem l1
   obtain ⟨u,hu,ru⟩:=T9.get x1
   refine wpAny_pyNext_enum_item he h1 Og.isList (x:=u) (by simpa using hu) ne fun h' a1 a2 a3 a4 a5=>?_
   refine ⟨_,rfl,wpAny_letOwnedTupleGo_enum (s:={ s with heap:=h',toks:=s.toks+1 }) a1 fun h2' b1 b2=>?_⟩
   have lte:e<s.heap.objs.size:=Heap.lt_size he
   have nz:s.heap.objs.size≠e:=Nat.ne_of_gt lte
   have kk:∀ c o,c ∉ [e,it]->s.heap.get? c=some o->h2'.get? c=some o:=fun c o hc q=>by
     simp only [List.mem_cons,List.not_mem_nil,or_false,not_or] at hc
     exact (b2.2 c hc.1).trans (a5 c o hc.1 hc.2 q)
   have eT:h2'.get? s.heap.objs.size=some { cls:=.type "tuple",data:=.seq #[.int (i:Int) s.toks,u] }:=(b2.2 _ nz).trans a3
   have fresh:H s.heap.objs.size=none:=I.hok.fresh (Nat.le_refl _)
   have Tf:∀ c∈[e,it],c<s.heap.objs.size:=fun c hc=>by
     simp only [List.mem_cons,List.not_mem_nil,or_false] at hc
     obtain ⟨o1,e1,_⟩:=h1
     rcases hc with rfl | rfl
     . exact lte
     . exact Heap.lt_size e1
   have I1:Inv X pins σ (upd H s.heap.objs.size (.tup [.int (i:Int),xs[i]])) { s with heap:=s.heap.push { cls:=.type "tuple",data:=.seq #[.int (i:Int) s.toks,u] } } :=
     I.laid (t':=s.toks) (fun _ _ e=>Heap.get?_push_of_some _ e) (Nat.le_refl _) ⟨by show 2<=sizeLine; rw [sizeLine_eq]; decide,[.int (i:Int) s.toks,u],.cons ⟨_,rfl⟩ (.cons ru .nil),jY.new _ _⟩
   have hf1:∀ c∈[e,it],kJ X pins (upd H s.heap.objs.size (.tup [.int (i:Int),xs[i]])) c:=fun c hc=>⟨by rw [aL (Nat.ne_of_lt (Tf c hc))]; exact (hf c hc).1,(hf c hc).2⟩
   have I2:Inv X pins σ (upd H s.heap.objs.size (.tup [.int (i:Int),xs[i]])) { s with heap:=h2',toks:=s.toks+1 }:=I1.vM (t':=s.toks+1) (fun c o hc q=>by
     by_cases ec:c=s.heap.objs.size
     . subst ec
       have e':(s.heap.push { cls:=.type "tuple",data:=.seq #[.int (i:Int) s.toks,u] }).get? s.heap.objs.size=some o:=q
       rw [Heap.get?_push_size _ rfl] at e'
       cases e'
       exact eT
     . have e':(s.heap.push { cls:=.type "tuple",data:=.seq #[.int (i:Int) s.toks,u] }).get? c=some o:=q
       rw [Heap.get?_push_ne _ _ _ ec] at e'
       exact kk c o hc e') hf1
   exact ⟨.ref s.heap.objs.size,_,I2,rfl,⟨_,_,fresh,rfl,x1,rfl⟩,⟨⟨u,b1⟩,a2.at fun o q=>(b2.2 _ (Ne.symm ne)).trans q⟩,fun c hc=>(hf1 c hc).1⟩
 done:=by
   intro X hP hw hK hc i pins s σ H E I hf st hg
   subst hP hw hK
   obtain ⟨hq1,hl⟩:=hg
   obtain ⟨⟨old,he⟩,h1⟩:=st
   obtain ⟨PB,T9,Og,_⟩:=I.list hq1
   have e1:=T9.length
   refine wpAny_pyNext_enum_end (I.ok.hd hc) he h1 Og.isList (by simp; omega) fun h' kk=>⟨rfl,I.vM (t':=s.toks) (fun c o hc q=>?_) hf⟩
   simp only [List.mem_cons,List.not_mem_nil,or_false,not_or] at hc
   exact kk c o hc.2 q
 self:=fun _ _ _ _ _ st h=>let ⟨⟨_,he⟩,_⟩:=st; wpAny_pyIter_enum he h
def abH (K:PySem.W.Frag) (ta:TA):TI:=fun σ H R=>ta σ H fun vs H1=>∃ a xs,vs=[.ref a]/\dw K H1 a xs/\R (Ite K a xs) H1
theorem Uo {a:Expr} {ta:TA} {p:Pos} {elts:List Expr} {k:Nat} {tp:Pos} (hg:Gl X "enumerate") (hm:X.mg "enumerate" = none) (ha:PA X [a] ta) (hs:starEach [a] X.env=[(false,eval a X.env)]:=by rfl) :
   PI X (.Tuple elts k tp) (.Call (.Name "enumerate" p) [a] [] pos) (abH X.K ta):=by
 intro pins s σ H R I h
 refine Call_ (qC I hg hm (show bootBuiltins "enumerate" = some (.type "enumerate") by decide +kernel) (PyProof.Rows.callWith_type1 (d7 (ha pos pins s σ H _ I h) fun us s1 ⟨vs,H1,I1,r1,q1⟩=>?_) (by rw [hs]; rfl) (by rfl)))
 obtain ⟨l1,xs,e,hq1,q⟩:=q1
 subst e
 obtain ⟨u,rfl,r⟩:=vals1 r1
 cases (show u=Value.ref l1 from r)
 obtain ⟨PB,T9,Og,_⟩:=I1.list hq1
 refine call_enumerate_list Og.isList fun h' he hi _ hk=>wpAny_pyIter_enum he ?_
 refine ⟨_,_,_,_,H1,rfl,I1.kept (t':=s1.toks) hk,Lz (s1.heap.objs.size+1) s1.heap.objs.size l1 (Nat.ne_of_gt (Nat.lt_succ_self _)) xs,⟨⟨_,he⟩,hi⟩,fun c hc=>?_,q⟩
 have le:s1.heap.objs.size<=c:=by
   simp only [List.mem_cons,List.not_mem_nil,or_false] at hc
   rcases hc with rfl | rfl
   . exact Nat.le_add_right _ 1
   . exact Nat.le_refl _
 exact I1.Av le (I1.hok.fresh le)
theorem Qg {K:PySem.W.Frag} {a:Addr} {xs:List V} {g:TG} {tb:TS} {D:Ends} {σ:St} {H:Hp} (Pv:Nat->St->Hp->Prop) (h0:Pv 0 σ H) (hl:∀ i σ H,i<=xs.length->Pv i σ H->dw K H a xs)
   (hs:∀ i x T σ H,xs[i]?=some x->Pv i σ H->H T=none->g (.ref T) σ (upd H T (.tup [.int (i:Int),x])) fun σ2 H2=>tb { D with nx:=Pv (i+1),ct:=Pv (i+1),bk:=D.nx } σ2 H2) (hd:∀ σ H,Pv xs.length σ H->D.nx σ H) :
   ∃ W:Nat->Nat->St->Hp->Prop,(∃ m,W 0 m σ H)/\∀ i m σ H,W i m σ H ->
     ((Ite K a xs).stop i H/\D.nx σ H)∨((Ite K a xs).go i H/\∃ N:St->Hp->Prop,(∀ σ' H',N σ' H'->∃ m',m'<m/\W (i+1) m' σ' H')/\∀ x H',(Ite K a xs).Oq i H x H'->g x σ H' fun σ2 H2=>tb { D with nx:=N,ct:=N,bk:=D.nx } σ2 H2):=by
 refine ⟨fun i m σ H=>m=xs.length-i/\i<=xs.length/\Pv i σ H,⟨xs.length,by simp,Nat.zero_le _,h0⟩,?_⟩
 rintro i m σ H ⟨rfl,hi,p⟩
 have q:=hl i σ H hi p
 by_cases hlt:i<xs.length
 . refine .inr ⟨⟨q,hlt⟩,Pv (i+1),fun σ' H' p'=>⟨xs.length-(i+1),by omega,rfl,hlt,p'⟩,fun x H' y=>?_⟩
   obtain ⟨T,x',fT,rfl,hx,rfl⟩:=y
   exact hs i x' T σ H hx p fT
 . have e:i=xs.length:=by omega
   subst e
   exact .inl ⟨⟨q,Nat.le_refl _⟩,hd σ H p⟩
def YT (tb:TS):TS:=fun D σ H=>tb { nx:=D.nx,rt:=fun _ _=>False,bk:=fun _ _=>False,ct:=fun _ _=>False } σ H
theorem Qh {body:List Stmt} {tb:TS} {h0:ExceptHandler} {hs:List ExceptHandler} (hb:Gn X.nox body tb):PS X (.Try body (h0 :: hs) [] [] pos) (YT tb):=by
 intro pins s σ H D I h
 refine wpAny_Try_except (wpAny_mono (hb pins s σ H _ (I.wish _) h) (fun fl s1 z=>?_) fun _ _ z=>False.elim z)
 cases fl with
 | next=>obtain ⟨σ1,H1,I1,q⟩:=z; exact wpAny_execs_nil ⟨σ1,H1,I1.mU,q⟩
 | ret u=>obtain ⟨_,_,_,_,_,q⟩:=z; exact False.elim q
 | brk=>obtain ⟨_,_,_,q⟩:=z; exact False.elim q
 | cont=>obtain ⟨_,_,_,q⟩:=z; exact False.elim q
end
end L2
namespace TP
open PySem PySem.Builtin PySem.Builtin.Str
abbrev L (z:Str):List Nat:=z.cps.toList
theorem ext {a b:Str} (h:L a=L b):a=b:=by
 obtain ⟨⟨a⟩⟩:=a
 obtain ⟨⟨b⟩⟩:=b
 simp only [L] at h
 rw [h]
theorem jL (a b:Str):L (a++b)=L a++L b:=L2.app_list a b
def jn (sep:List Nat):List (List Nat)->List Nat
 | []=>[]
 | [x]=>x
 | x :: y :: r=>x++(sep++jn sep (y :: r))
theorem Uq {sep x:List Nat} {r:List (List Nat)} (h:r≠[]):jn sep (x :: r)=x++(sep++jn sep r):=by
 cases r with
 | nil=>exact absurd rfl h
 | cons y r=>rfl
theorem fQ (sep:Str):∀ ts:List Str,L (Str.join sep ts)=jn (L sep) (ts.map L)
 | []=>rfl
 | [x]=>rfl
 | x :: y :: r=>by
   show L (x++sep++Str.join sep (y :: r))=L x++(L sep++jn (L sep) ((y :: r).map L))
   rw [jL,jL,fQ sep (y :: r),List.append_assoc]
theorem JQ {c:Nat}:∀ {a b x y:List Nat},c ∉ a->c ∉ b->a++c :: x=b++c :: y->a=b/\x=y
 | [],[],x,y,_,_,h=>⟨rfl,(List.cons.inj h).2⟩
 | [],d :: b,x,y,_,hb,h=>absurd (List.cons.inj h).1 (fun z=>hb (by rw [z]; exact List.mem_cons_self))
 | d :: a,[],x,y,ha,_,h=>absurd (List.cons.inj h).1.symm (fun z=>ha (by rw [z]; exact List.mem_cons_self))
 | d :: a,e :: b,x,y,ha,hb,h=>by
   obtain ⟨h1,h2⟩:=List.cons.inj h
   obtain ⟨h3,h4⟩:=JQ (fun z=>ha (List.mem_cons_of_mem _ z)) (fun z=>hb (List.mem_cons_of_mem _ z)) h2
   exact ⟨by rw [h1,h3],h4⟩
theorem Hj {c:Nat}:∀ {as bs:List (List Nat)},as≠[]->bs≠[]->(∀ a∈as,c ∉ a)->(∀ b∈bs,c ∉ b)->jn [c] as=jn [c] bs->as=bs
 | [],_,h,_,_,_,_=>absurd rfl h
 | _ :: _,[],_,h,_,_,_=>absurd rfl h
 | [a],[b],_,_,_,_,h=>by rw [show a=b from h]
 | [a],b :: b' :: r,_,_,ha,_,h=>by
   have e:a=b++c :: jn [c] (b' :: r):=h
   exact absurd (by rw [e]; exact List.mem_append_right _ List.mem_cons_self) (ha a List.mem_cons_self)
 | a :: a' :: r,[b],_,_,_,hb,h=>by
   have e:a++c :: jn [c] (a' :: r)=b:=h
   exact absurd (by rw [<- e]; exact List.mem_append_right _ List.mem_cons_self) (hb b List.mem_cons_self)
 | a :: a' :: r,b :: b' :: r',_,_,ha,hb,h=>by
   obtain ⟨h1,h2⟩:=JQ (ha a List.mem_cons_self) (hb b List.mem_cons_self) (show a++c :: jn [c] (a' :: r)=b++c :: jn [c] (b' :: r') from h)
   rw [h1,Hj (by simp) (by simp) (fun x hx=>ha x (List.mem_cons_of_mem _ hx)) (fun x hx=>hb x (List.mem_cons_of_mem _ hx)) h2]
theorem WK {as bs:List Str} (h:as.map L=bs.map L):as=bs:=by
 induction as generalizing bs with
 | nil=>cases bs with | nil=>rfl | cons _ _=>cases h
 | cons a as ih =>
   cases bs with
   | nil=>cases h
   | cons b bs =>
     obtain ⟨h1,h2⟩:=List.cons.inj h
     rw [ext h1,ih h2]
theorem DW (x y:Str):Txt.split x y≠[]:=fun z=>by
 have:=PyProof.Rows.split_pos x y
 rw [z] at this
 simp at this
theorem tZ {c:Nat} {ts:List Str} (ne:ts≠[]) (free:∀ t∈ts,c ∉ L t):Txt.split (Str.join ⟨#[c]⟩ ts) ⟨#[c]⟩=ts:=by
 refine WK (Hj (c:=c) (fun z=>DW _ _ (List.map_eq_nil_iff.mp z)) (fun z=>ne (List.map_eq_nil_iff.mp z)) (fun a ha=>?_) (fun b hb=>?_) ?_)
 . obtain ⟨t,ht,rfl⟩:=List.mem_map.mp ha
   exact StrLaws.split_free _ c t ht
 . obtain ⟨t,ht,rfl⟩:=List.mem_map.mp hb
   exact free t ht
 . have e:=StrLaws.join_split (Str.join ⟨#[c]⟩ ts) ⟨#[c]⟩
   have e2:=congrArg L e
   rw [fQ,fQ] at e2
   exact e2
theorem DX {c:Nat} {x a b:Str} (e:x=a++⟨#[c]⟩++b) (free:c ∉ L a):Txt.partition x ⟨#[c]⟩=(a,⟨#[c]⟩,b):=by
 have eL:L x=L a++c :: L b:=by rw [e,jL,jL,List.append_assoc]; rfl
 have ge:∀ k,StrLaws.At x ⟨#[c]⟩ x.length k↔(L x)[k]?=some c:=fun k=>StrLaws.subAt_one x c k
 have la:(L a).length=a.length:=L2.len_list a
 have lx:(L x).length=x.length:=L2.len_list x
 have at0:(L x)[a.length]?=some c:=by
   rw [eL,List.getElem?_append_right (by omega),la,Nat.sub_self]; rfl
 have no:∀ k,k<a.length->(L x)[k]?≠some c:=fun k hk h=>by
   rw [eL,List.getElem?_append_left (by omega)] at h
   exact free (List.mem_of_getElem? h)
 unfold Txt.partition
 rcases StrLaws.occ_head x ⟨#[c]⟩ 1 (Nat.le_refl 1) with ⟨_,h⟩ | ⟨i,r,h0,h1,h2⟩
 . exact absurd ((ge a.length).mpr at0) (h a.length)
 . have ei:i=a.length:=by
     rcases Nat.lt_trichotomy i a.length with z | z | z
     . exact absurd ((ge i).mp h1) (no i z)
     . exact z
     . exact absurd ((ge _).mpr at0) (h2 _ z)
   rw [h0]
   subst ei
   have e1:strSub x 0 a.length=a:=ext (by
     show (strSub x 0 a.length).cps.toList=_
     rw [StrLaws.strSub_toList,List.drop_zero,Nat.sub_zero]
     show (L x).take a.length=L a
     rw [eL,<- la,List.take_left' rfl])
   have e2:strSub x (a.length+(⟨#[c]⟩:Str).length) x.length=b:=ext (by
     show (strSub x (a.length+1) x.length).cps.toList=_
     rw [StrLaws.strSub_toList]
     show ((L x).drop (a.length+1)).take _=L b
     have lb:x.length-(a.length+1)=(L b).length:=by rw [<- lx,eL,List.length_append,List.length_cons]; omega
     rw [lb,eL,<- la,<- List.drop_drop,List.drop_left' rfl,List.drop_one,List.tail_cons,List.take_length])
   show (strSub x 0 a.length,_,_)=_
   rw [e1,e2]
theorem Qi {x:Str} {a b k:Nat}:StrLaws.At x ⟨#[a,b]⟩ x.length k↔(L x)[k]?=some a/\(L x)[k+1]?=some b:=by
 show (k+2<=x.length/\subAt x ⟨#[a,b]⟩ k=true)↔_
 rw [StrLaws.subAt_eq]
 show (k+2<=x.length/\((L x).drop k).take 2 == [a,b])↔_
 have e0:(L x)[k]?=((L x).drop k)[0]?:=by rw [List.getElem?_drop]; rfl
 have e1:(L x)[k+1]?=((L x).drop k)[1]?:=by rw [List.getElem?_drop]
 have ll:((L x).drop k).length=x.length-k:=by rw [List.length_drop,L2.len_list]
 rw [e0,e1]
 generalize (L x).drop k=l at ll
 match l,ll with
 | [],ll=>simp
 | [p],ll=>simp
 | p :: q :: r,ll =>
   simp only [List.length_cons] at ll
   have:k+2<=x.length:=by omega
   simp [this]
def J (l:List Nat):Prop:=∀ j,l[j]?=some 47->1<=j/\l[j-1]?=some 32
theorem abI:∀ {ts:List (List Nat)},(∀ t∈ts,47 ∉ t)->J (jn [32,47] ts)
 | [],_,j,h=>by simp [jn] at h
 | [t],f,j,h=>absurd (List.mem_of_getElem? (show t[j]?=some 47 from h)) (f t List.mem_cons_self)
 | t :: u :: r,f,j,h=>by
   have e:jn [32,47] (t :: u :: r)=t++32 :: 47 :: jn [32,47] (u :: r):=rfl
   rw [e] at h ⊢
   rcases Nat.lt_trichotomy j t.length with z | z | z
   . rw [List.getElem?_append_left z] at h
     exact absurd (List.mem_of_getElem? h) (f t List.mem_cons_self)
   . rw [List.getElem?_append_right (by omega),z,Nat.sub_self] at h
     cases h
   . rw [List.getElem?_append_right (by omega)] at h
     obtain ⟨i,rfl⟩:∃ i,j=t.length+1+i:=⟨j-t.length-1,by omega⟩
     have e1:t.length+1+i-t.length=i+1:=by omega
     rw [e1] at h
     have h':(47 :: jn [32,47] (u :: r))[i]?=some 47:=h
     refine ⟨by omega,?_⟩
     have e2:t.length+1+i-1=t.length+i:=by omega
     rw [e2,List.getElem?_append_right (by omega),Nat.add_sub_cancel_left]
     cases i with
     | zero=>rfl
     | succ i =>
       have ih:=abI (fun t ht=>f t (List.mem_cons_of_mem _ ht)) i (show (jn [32,47] (u :: r))[i]?=some 47 from h')
       show (47 :: jn [32,47] (u :: r))[i]?=some 32
       obtain ⟨i,rfl⟩:∃ k,i=k+1:=⟨i-1,by omega⟩
       exact ih.2
theorem qJ {x:Str} {a b:Nat} (hJ:J (L x)) (hb:b<=x.length) (hn:∀ k,a<=k->k<b->¬ StrLaws.At x ⟨#[32,47]⟩ x.length k) (ha:a=0∨(L x)[a-1]?=some 47):47 ∉ L (strSub x a b):=by
 intro hm
 have hm':47∈(strSub x a b).cps.toList:=hm
 rw [StrLaws.strSub_toList] at hm'
 obtain ⟨j,hj⟩:=List.getElem?_of_mem hm'
 have hlt:j<b-a:=by
   have h1:j<((x.cps.toList.drop a).take (b-a)).length:=(List.getElem?_eq_some_iff.mp hj).1
   simp at h1
   omega
 rw [List.getElem?_take_of_lt hlt,List.getElem?_drop] at hj
 obtain ⟨h1,h2⟩:=hJ _ hj
 by_cases z:j=0
 . subst z
   rcases ha with w | w
   . omega
   . rw [show a+0-1=a-1 by omega] at h2
     rw [h2] at w
     cases w
 . refine hn (a+j-1) (by omega) (by omega) (Qi.mpr ⟨h2,?_⟩)
   rw [show a+j-1+1=a+j by omega]; exact hj
theorem u9 {x:Str} (hJ:J (L x)):∀ (cuts:List Nat) (a f:Nat),StrLaws.ChainG x ⟨#[32,47]⟩ x.length a cuts f->(∀ k,f<=k->¬ StrLaws.At x ⟨#[32,47]⟩ x.length k)->(a=0∨(L x)[a-1]?=some 47)->∀ p∈StrLaws.partsFrom x (⟨#[32,47]⟩:Str).length a cuts,47 ∉ L p
 | [],a,f,h,hn,ha,p,hp=>by
   have e:f=a:=h
   subst e
   rw [List.mem_singleton.mp hp]
   exact qJ hJ (Nat.le_refl _) (fun k h1 _=>hn k h1) ha
 | d :: r,a,f,h,hn,ha,p,hp=>by
   rcases List.mem_cons.mp hp with rfl | hp'
   . exact qJ hJ (by have:=h.2.1.1; omega) h.2.2.1 ha
   . exact u9 hJ r _ f h.2.2.2 hn (.inr (Qi.mp h.2.1).2) p hp'
theorem DY {x:Str} (hJ:J (L x)):∀ p∈Txt.split x ⟨#[32,47]⟩,47 ∉ L p:=by
 obtain ⟨f,hG,hn⟩:=StrLaws.occ_tight x ⟨#[32,47]⟩ (show 1<=2 by decide)
 unfold Txt.split
 split
 . rename_i hc
   intro p hp
   rw [List.mem_singleton.mp hp]
   intro hm
   obtain ⟨j,hj⟩:=List.getElem?_of_mem hm
   obtain ⟨h1,h2⟩:=hJ j hj
   have lj:=(List.getElem?_eq_some_iff.mp hj).1
   rw [L2.len_list] at lj
   rw [Bool.or_eq_true,decide_eq_true_eq,decide_eq_true_eq] at hc
   rcases hc with h | h
   . have:x.length<2:=h
     omega
   . have e:Builtin.Str.strKind ⟨#[32,47]⟩=1:=by decide +kernel
     rw [e] at h
     unfold Builtin.Str.strKind at h
     split at h
     . omega
     . split at h <;> omega
 . split
   . rename_i he
     intro p hp
     rw [List.mem_singleton.mp hp]
     have e0:occurrences x ⟨#[32,47]⟩ 0 x.length (x.length+1)=[]:=List.isEmpty_iff.mp he
     rw [e0] at hG
     have ef:f=0:=hG
     subst ef
     rw [<- StrLaws.sub_whole x]
     exact qJ hJ (Nat.le_refl _) (fun k h1 _=>hn k h1) (.inl rfl)
   . rw [StrLaws.partsBetween_eq]
     exact u9 hJ _ 0 f hG hn (.inl rfl)
def ap:List (List Nat)->List (List Nat)
 | []=>[]
 | [x]=>[x]
 | x :: y :: r=>(x++[32]) :: ap (y :: r)
theorem Ea {l:List (List Nat)} (h:l≠[]):ap l≠[]:=by
 match l,h with
 | [_],_=>exact fun z=>by cases z
 | _ :: _ :: _,_=>exact fun z=>by cases z
theorem Qj:∀ l:List (List Nat),jn [32,47] l=jn [47] (ap l)
 | []=>rfl
 | [x]=>rfl
 | x :: y :: r=>by
   rw [show ap (x :: y :: r)=(x++[32]) :: ap (y :: r) from rfl,Uq (Ea (by simp)),<- Qj (y :: r)]
   show x++([32,47]++_)=x++[32]++([47]++_)
   simp
theorem Bt:∀ {l:List (List Nat)},(∀ t∈l,47 ∉ t)->∀ t∈ap l,47 ∉ t
 | [],_,t,h=>by cases h
 | [x],f,t,h=>f t h
 | x :: y :: r,f,t,h=>by
   rcases List.mem_cons.mp h with rfl | h
   . intro z
     rcases List.mem_append.mp z with w | w
     . exact f x List.mem_cons_self w
     . simp at w
   . exact Bt (fun t ht=>f t (List.mem_cons_of_mem _ ht)) t h
theorem Qk:∀ {l m:List (List Nat)},ap l=ap m->l=m
 | [],[],_=>rfl
 | [],[_],h=>by cases h
 | [],_ :: _ :: _,h=>by cases h
 | [_],[],h=>by cases h
 | _ :: _ :: _,[],h=>by cases h
 | [x],[y],h=>h
 | [x],y :: z :: r,h=>absurd (List.cons.inj h).2.symm (Ea (by simp))
 | x :: y :: r,[z],h=>absurd (List.cons.inj h).2 (Ea (by simp))
 | x :: y :: r,x' :: y' :: r',h=>by
   obtain ⟨h1,h2⟩:=List.cons.inj h
   rw [List.append_cancel_right h1,Qk h2]
theorem LC {ts:List Str} (ne:ts≠[]) (free:∀ t∈ts,47 ∉ L t):Txt.split (Str.join ⟨#[32,47]⟩ ts) ⟨#[32,47]⟩=ts:=by
 have fL:∀ t∈ts.map L,47 ∉ t:=fun a ha=>by obtain ⟨t,ht,rfl⟩:=List.mem_map.mp ha; exact free t ht
 have hJ:J (L (Str.join ⟨#[32,47]⟩ ts)):=by rw [fQ]; exact abI fL
 have e2:=congrArg L (StrLaws.join_split (Str.join ⟨#[32,47]⟩ ts) ⟨#[32,47]⟩)
 rw [fQ,fQ] at e2
 have e3:jn [47] (ap ((Txt.split (Str.join ⟨#[32,47]⟩ ts) ⟨#[32,47]⟩).map L))=jn [47] (ap (ts.map L)):=by rw [<- Qj,<- Qj]; exact e2
 refine WK (Qk (Hj (c:=47) (Ea fun z=>DW _ _ (List.map_eq_nil_iff.mp z)) (Ea fun z=>ne (List.map_eq_nil_iff.mp z)) (Bt fun a ha=>?_) (Bt fL) e3))
 obtain ⟨t,ht,rfl⟩:=List.mem_map.mp ha
 exact DY hJ t ht
end TP
namespace iG
open PySem L2
theorem ig {c:TT} {t e u:TS} {D:Ends} {σ:St} {H:Hp} (N:St->Hp->Prop) (h:∀ U:St->Hp->Prop,(∀ σ' H',N σ' H'->U σ' H')->Ar c t e { D with nx:=U } σ H) (hN:∀ σ' H',N σ' H'->u D σ' H'):oG (Ar c t e) u D σ H:=h (u D) hN
theorem gP {te:TE} {g:TG} {u:TS} {D:Ends} {σ:St} {H:Hp} (h:∀ U:St->Hp->Prop,U=u D->te σ H fun x H1=>g x σ H1 U):oG (qD te g) u D σ H:=h (u D) rfl
theorem gn {i:Nat} {v:V} {n:St->Hp->Prop} {σ:St} {H:Hp} (h:n (σ.set i (some v)) H):uZ i v σ H n:=h
theorem aO {G:Prop} (h:∀ R:Prop,R=G->R):G:=h G rfl
def isW:V->Bool
 | .int _=>true
 | _=>false
def Thing (K:PySem.W.Frag) (H:Hp) (x:V):Prop:=(∃ T,jJ K H x (.type T))/\∀ z,x=.str z->z.length<=sizeLine
def low (c:Nat):Bool:=97<=c && c<=122
def yZ:V->Bool
 | .str z=>decide (1<=z.length) && decide (z.length<=8) && z.cps.toList.all low
 | _=>false
def rZ (K:PySem.W.Frag):Sp:=fun vs H Q _=>∃ x,vs=[x]/\Thing K H x/\Q (.bl (isW x)) H
def wM (K:PySem.W.Frag):Sp:=fun vs H Q _=>∃ x,vs=[x]/\Thing K H x/\∀ H',Same H H'->Q (.bl (yZ x)) H'
section
variable {P:Program} {w:World} {K:PySem.W.Frag} {mg:Str->Option Value} {base:Heap} {t8 t6 tR tL:Tok}
theorem YW {H:Hp} {x:V} {T:String} (h:jJ K H x (.type T)):(Bh T "int" && !Bh T "bool")=isW x:=by
 cases h <;> rfl
theorem YX (c:Nat):(!decide ((⟨#[c]⟩:Str).cps.toList<("a" : Str).cps.toList))=decide (97<=c)/\(!decide (("z" : Str).cps.toList<(⟨#[c]⟩:Str).cps.toList))=decide (c<=122):=by
 have ea:("a" : Str).cps.toList=[97]:=by decide +kernel
 have ez:("z" : Str).cps.toList=[122]:=by decide +kernel
 have es:(⟨#[c]⟩:Str).cps.toList=[c]:=rfl
 rw [ea,ez,es]
 constructor
 . rw [Bool.eq_iff_iff]; simp [lt1]
 . rw [Bool.eq_iff_iff]; simp [lt1]
end
end iG
namespace iG
open PySem L2
structure Good (z:Str):Prop where
 lo:1<=z.length
 hi:z.length<=8
 all:∀ c∈z.cps.toList,low c=true
theorem Good.yZ {z:Str} (g:Good z):iG.yZ (.str z)=true:=by
 have h:z.cps.toList.all low=true:=List.all_eq_true.mpr g.all
 simp [iG.yZ,g.lo,g.hi,h]
abbrev Row:=Str × Int
structure aB where
 name:Str
 low:Int
 high:Int
 aN:Int
 runs:List (List Row)
abbrev Letter:=(Str × Str) × Int × Option Int
def jM:Option Int->V
 | none=>.non
 | some i=>.int i
def dJ (H:Hp) (v:V) (r:Row):Prop:=∃ a,v=.ref a/\H a=some (.tup [.str r.1,.int r.2])
def jf (H:Hp) (v:V) (rs:List Row):Prop:=∃ a vs,v=.ref a/\H a=some (.tup vs)/\Paired (dJ H) vs rs
def lM (H:Hp) (v:V) (rs:List (List Row)):Prop:=∃ a vs,v=.ref a/\H a=some (.tup vs)/\Paired (jf H) vs rs
def dI (H:Hp) (v:V) (h:aB):Prop:=∃ a b,v=.ref a/\H a=some (.tup [.str h.name,.int h.low,.int h.high,.int h.aN,b])/\lM H b h.runs
def fu (H:Hp) (v:V) (hs:List aB):Prop:=∃ a vs,v=.ref a/\H a=some (.tup vs)/\Paired (dI H) vs hs
def dM (H:Hp) (v:V) (l:Letter):Prop:=∃ a,v=.ref a/\H a=some (.tup [.str l.1.1,.str l.1.2,.int l.2.1,jM l.2.2])
def fB (H:Hp) (v:V) (ls:List Letter):Prop:=∃ a vs,v=.ref a/\H a=some (.tup vs)/\Paired (dM H) vs ls
def bM (H:Hp) (v:V) (hs:List aB) (ls:List Letter):Prop:=∃ a x y,v=.ref a/\H a=some (.tup [x,y])/\fu H x hs/\fB H y ls
section
variable {H H':Hp} {v:V} (s:fO H H')
include s
theorem dJ.ts {r:Row} (h:dJ H v r):dJ H' v r:=let ⟨a,e,g⟩:=h; ⟨a,e,s _ _ g⟩
theorem jf.ts {r:List Row} (h:jf H v r):jf H' v r:=let ⟨a,vs,e,g,p⟩:=h; ⟨a,vs,e,s _ _ g,aK (fun _ _ q=>dJ.ts s q) p⟩
theorem lM.ts {r:List (List Row)} (h:lM H v r):lM H' v r:=let ⟨a,vs,e,g,p⟩:=h; ⟨a,vs,e,s _ _ g,aK (fun _ _ q=>jf.ts s q) p⟩
theorem dI.ts {r:aB} (h:dI H v r):dI H' v r:=let ⟨a,b,e,g,p⟩:=h; ⟨a,b,e,s _ _ g,lM.ts s p⟩
theorem fu.ts {r:List aB} (h:fu H v r):fu H' v r:=let ⟨a,vs,e,g,p⟩:=h; ⟨a,vs,e,s _ _ g,aK (fun _ _ q=>dI.ts s q) p⟩
theorem dM.ts {r:Letter} (h:dM H v r):dM H' v r:=let ⟨a,e,g⟩:=h; ⟨a,e,s _ _ g⟩
theorem fB.ts {r:List Letter} (h:fB H v r):fB H' v r:=let ⟨a,vs,e,g,p⟩:=h; ⟨a,vs,e,s _ _ g,aK (fun _ _ q=>dM.ts s q) p⟩
theorem bM.ts {hs:List aB} {ls:List Letter} (h:bM H v hs ls):bM H' v hs ls:=let ⟨a,x,y,e,g,p,q⟩:=h; ⟨a,x,y,e,s _ _ g,fu.ts s p,fB.ts s q⟩
end
structure iY (rs:List Row):Prop where
 ne:rs≠[]
 few:rs.length<=25
 names:∀ r∈rs,Good r.1
 rise:(rs.map Prod.snd).Pairwise (·<·)
structure bL (h:aB):Prop where
 name:Good h.name
 wide:h.low<=h.high
 aN:0<=h.aN
 few:h.runs.length<=25
 runs:∀ r∈h.runs,iY r
def jg (h:aB):List Row:=h.runs.flatten
def bQ (h:aB):List Str:=(jg h).map Prod.fst
def namesOf (hs:List aB):List Str:=hs.flatMap bQ
structure bA (hs:List aB):Prop where
 lo:1<=hs.length
 hi:hs.length<=6
 all:∀ h∈hs,bL h
 names:(hs.map aB.name).Nodup
 rows:(namesOf hs).Nodup
 few:(namesOf hs).length<=24
structure m7 (hs:List aB) (l:Letter):Prop where
 sent:Good l.1.1
 taken:Good l.1.2
 least:1<=l.2.1
 most:∀ m,l.2.2=some m->l.2.1<=m
 gR:∃ h1∈hs,∃ h2∈hs,l.1.1∈bQ h1/\l.1.2∈bQ h2/\h1.name≠h2.name
structure aU (hs:List aB) (ls:List Letter):Prop where
 few:ls.length<=24
 all:∀ l∈ls,m7 hs l
 rise:(ls.map Prod.fst).Pairwise (fun a b=>wH a b=true)
end iG
namespace iG
open PySem L2
inductive Da where
 | non | bl (b:Bool) | int (i:Int) | str (z:Str) | tup (xs:List Da) | oth
mutual
inductive bC (H:Hp):V->Da->Prop
 | non:bC H .non .non
 | bl (b:Bool):bC H (.bl b) (.bl b)
 | int (i:Int):bC H (.int i) (.int i)
 | str (z:Str) (h:z.length<=sizeLine):bC H (.str z) (.str z)
 | tup {a:Addr} {vs:List V} {xs:List Da}:H a=some (.tup vs)->vs.length<=25->dg H vs xs->bC H (.ref a) (.tup xs)
 | lst {a:Addr} {vs:List V}:H a=some (.lst vs)->bC H (.ref a) .oth
 | Tg {a:Addr} {kvs:List (Key × V)}:H a=some (.dK kvs)->bC H (.ref a) .oth
inductive dg (H:Hp):List V->List Da->Prop
 | nil:dg H [] []
 | cons {v:V} {vs:List V} {x:Da} {xs:List Da}:bC H v x->dg H vs xs->dg H (v :: vs) (x :: xs)
end
mutual
theorem bC.same {H H':Hp} (s:Same H H'):∀ {v:V} {d:Da},bC H v d->bC H' v d
 | _,_,.non=>.non
 | _,_,.bl b=>.bl b
 | _,_,.int i=>.int i
 | _,_,.str z h=>.str z h
 | _,_,.tup h l r=>.tup (s _ _ h) l (dg.same s r)
 | _,_,.lst h=>.lst (s _ _ h)
 | _,_,.Tg h=>.Tg (s _ _ h)
theorem dg.same {H H':Hp} (s:Same H H'):∀ {v:List V} {d:List Da},dg H v d->dg H' v d
 | _,_,.nil=>.nil
 | _,_,.cons h r=>.cons (bC.same s h) (dg.same s r)
end
theorem dg.len {H:Hp}:∀ {vs:List V} {xs:List Da},dg H vs xs->vs.length=xs.length
 | _,_,.nil=>rfl
 | _,_,.cons _ r=>by rw [List.length_cons,List.length_cons,r.len]
theorem dg.get {H:Hp}:∀ {vs:List V} {xs:List Da},dg H vs xs->∀ {i:Nat} {v:V},vs[i]?=some v->∃ x,xs[i]?=some x/\bC H v x
 | _,_,.nil,i,v,e=>by simp at e
 | _,_,.cons h r,i,v,e=>by
   cases i with
   | zero=>cases (show some _=some v from e); exact ⟨_,rfl,h⟩
   | succ i=>exact r.get (by simpa using e)
theorem dg.inv {H:Hp} {vs:List V} {x:Da} {xs:List Da} (h:dg H vs (x :: xs)):∃ v r,vs=v :: r/\bC H v x/\dg H r xs:=by
 cases h with
 | cons h r=>exact ⟨_,_,rfl,h,r⟩
theorem dg.afj {H:Hp} {vs:List V} (h:dg H vs []):vs=[]:=by cases h; rfl
theorem dg.afk {H:Hp} {vs:List V} {a:Da} (h:dg H vs [a]):∃ v1,vs=[v1]/\bC H v1 a:=by
 obtain ⟨v,r,rfl,h1,h2⟩:=h.inv
 obtain rfl:=h2.afj
 exact ⟨_,rfl,h1⟩
theorem dg.two {H:Hp} {vs:List V} {a b:Da} (h:dg H vs [a,b]):∃ v1 v2,vs=[v1,v2]/\bC H v1 a/\bC H v2 b:=by
 obtain ⟨v,r,rfl,h1,h2⟩:=h.inv
 obtain ⟨w,rfl,h3⟩:=h2.afk
 exact ⟨_,_,rfl,h1,h3⟩
theorem dg.four {H:Hp} {vs:List V} {a b c d:Da} (h:dg H vs [a,b,c,d]):∃ v1 v2 v3 v4,vs=[v1,v2,v3,v4]/\bC H v1 a/\bC H v2 b/\bC H v3 c/\bC H v4 d:=by
 obtain ⟨v,r,rfl,h1,h2⟩:=h.inv
 obtain ⟨w,r,rfl,h3,h4⟩:=h2.inv
 obtain ⟨x,y,rfl,h5,h6⟩:=h4.two
 exact ⟨_,_,_,_,rfl,h1,h3,h5,h6⟩
theorem dg.five {H:Hp} {vs:List V} {a b c d e:Da} (h:dg H vs [a,b,c,d,e]):∃ v1 v2 v3 v4 v5,vs=[v1,v2,v3,v4,v5]/\bC H v1 a/\bC H v2 b/\bC H v3 c/\bC H v4 d/\bC H v5 e:=by
 obtain ⟨v,r,rfl,h1,h2⟩:=h.inv
 obtain ⟨w,x,y,z,rfl,h3,h4,h5,h6⟩:=h2.four
 exact ⟨_,_,_,_,_,rfl,h1,h3,h4,h5,h6⟩
theorem su {n:Nat} {xs:List Da} (h:xs.length=n+1):∃ x r,xs=x :: r/\r.length=n:=by
 cases xs with
 | nil=>cases h
 | cons x r=>exact ⟨x,r,rfl,Nat.succ.inj h⟩
theorem len2 {xs:List Da} (h:xs.length=2):∃ a b,xs=[a,b]:=by
 obtain ⟨a,r1,rfl,h1⟩:=su h
 obtain ⟨b,r2,rfl,h2⟩:=su h1
 obtain rfl:=List.eq_nil_of_length_eq_zero h2
 exact ⟨a,b,rfl⟩
theorem abJ {xs:List Da} (h:xs.length=4):∃ a b c d,xs=[a,b,c,d]:=by
 obtain ⟨a,r1,rfl,h1⟩:=su h
 obtain ⟨b,r2,rfl,h2⟩:=su h1
 obtain ⟨c,d,rfl⟩:=len2 h2
 exact ⟨a,b,c,d,rfl⟩
theorem afl {xs:List Da} (h:xs.length=5):∃ a b c d e,xs=[a,b,c,d,e]:=by
 obtain ⟨a,r1,rfl,h1⟩:=su h
 obtain ⟨b,c,d,e,rfl⟩:=abJ h1
 exact ⟨a,b,c,d,e,rfl⟩
theorem bC.gk {H:Hp} {v:V} {xs:List Da} (h:bC H v (.tup xs)):∃ a vs,v=.ref a/\H a=some (.tup vs)/\vs.length<=25/\dg H vs xs:=by
 cases h with
 | tup h l r=>exact ⟨_,_,rfl,h,l,r⟩
def YZ:Da->Bool
 | .tup _=>true
 | _=>false
def iM:Da->Bool
 | .int _=>true
 | _=>false
def qt:Da->Bool
 | .str z=>yZ (.str z)
 | _=>false
def intD:Da->Int
 | .int i=>i
 | _=>0
def m8 (d:Da) (n:Nat):Bool:=match d with
 | .tup xs=>decide (xs.length=n)
 | _=>false
def gD:Da->Bool
 | .tup [a,b]=>qt a && iM b
 | _=>false
def Hl:Da->Da
 | .tup [_,b]=>b
 | _=>.non
def fU {α:Type} (xs:List α):List (α × α):=xs.zip (xs.drop 1)
def sy (is:List Int):Bool:=(fU is).all fun p=>decide (p.1<p.2)
def sE (ks:List (Str × Str)):Bool:=(fU ks).all fun p=>wH p.1 p.2
def wN:Da->Bool
 | .tup xs=>!xs.isEmpty && (xs.all gD && sy (xs.map fun x=>intD (Hl x)))
 | _=>false
def oX (n l h d:Da):Bool:=qt n && ((iM l && (iM h && iM d)) && (decide (intD l<=intD h) && decide (0<=intD d)))
def JR:Da->Bool
 | .tup rs=>rs.all wN
 | _=>false
def fV:Da->Bool
 | .tup [n,l,h,d,r]=>oX n l h d && JR r
 | _=>false
def JT (l:Int):Da->Bool
 | .non=>true
 | .int i=>decide (l<=i)
 | _=>false
def eZ:Da->Bool
 | .tup [s,t,l,m]=>qt s && (qt t && (iM l && (decide (1<=intD l) && JT (intD l) m)))
 | _=>false
theorem m9 {y:Da} (h:gD y=true):∃ z j,y=.tup [.str z,.int j]/\yZ (.str z)=true:=by
 unfold gD at h
 split at h
 . rename_i a b
   obtain ⟨h1,h2⟩:=Bool.and_eq_true_iff.mp h
   cases b with
   | int j =>
     cases a with
     | str z=>exact ⟨z,j,rfl,h1⟩
     | _=>cases h1
   | _=>cases h2
 . cases h
theorem bC.kind {K:PySem.W.Frag} {H:Hp} {v:V} {d:Da} (h:bC H v d):Thing K H v/\(∃ T,jJ K H v (.type T)/\PySem.W.kitOne K (.type T) (.type "tuple")=some (YZ d))/\isW v=iM d/\yZ v=qt d:=by
 cases h with
 | non=>exact ⟨⟨⟨_,.non⟩,fun z e=>by cases e⟩,⟨_,.non,(yU (K:=K) (jJ.non (H:=H))).2.2.2⟩,rfl,rfl⟩
 | bl b=>exact ⟨⟨⟨_,.bl b⟩,fun z e=>by cases e⟩,⟨_,.bl b,(yU (K:=K) (jJ.bl (H:=H) b)).2.2.2⟩,rfl,rfl⟩
 | int i=>exact ⟨⟨⟨_,.int i⟩,fun z e=>by cases e⟩,⟨_,.int i,(yU (K:=K) (jJ.int (H:=H) i)).2.2.2⟩,rfl,rfl⟩
 | str z hz=>exact ⟨⟨⟨_,.str z⟩,fun y e=>by cases e; exact hz⟩,⟨_,.str z,(yU (K:=K) (jJ.str (H:=H) z)).2.2.2⟩,rfl,rfl⟩
 | tup e l r=>exact ⟨⟨⟨_,.tup e⟩,fun z e=>by cases e⟩,⟨_,.tup e,(yU (K:=K) (jJ.tup e)).2.2.2⟩,rfl,rfl⟩
 | lst e=>exact ⟨⟨⟨_,.lst e⟩,fun z e=>by cases e⟩,⟨_,.lst e,(yU (K:=K) (jJ.lst e)).2.2.2⟩,rfl,rfl⟩
 | Tg e=>exact ⟨⟨⟨_,.dK e⟩,fun z e=>by cases e⟩,⟨_,.dK e,(yU (K:=K) (jJ.dK e)).2.2.2⟩,rfl,rfl⟩
def zP (f:Da->Bool):Sp:=fun vs H Q _=>∃ (x:V) (d:Da),vs=[x]/\bC H x d/\∀ H',Same H H'->Q (.bl (f d)) H'
def pU:Sp:=fun vs H Q _=>∃ (x:V) (d:Da) (n:Nat),vs=[x,.int (n:Int)]/\bC H x d/\Q (.bl (m8 d n)) H
def Bu:Sp:=fun vs H Q _=>∃ (x0 x1 x2 x3:V) (d0 d1 d2 d3:Da),vs=[x0,x1,x2,x3]/\bC H x0 d0/\bC H x1 d1/\bC H x2 d2/\bC H x3 d3/\∀ H',Same H H'->Q (.bl (oX d0 d1 d2 d3)) H'
def Ql (H:Hp) (xs:List V) (b:Bool):Prop:=(∃ is:List Int,xs=is.map V.int/\b=sy is)∨∃ (as:List Addr) (ks:List (Str × Str)),xs=as.map V.ref/\Paired (fun a k=>H a=some (.tup ((kP k).map kV))) as ks/\b=sE ks
def sG:Sp:=fun vs H Q _=>∃ (a:Addr) (xs:List V) (b:Bool),vs=[.ref a]/\H a=some (.lst xs)/\xs.length<=60/\Ql H xs b/\∀ H',Same H H'->Q (.bl b) H'
theorem lX {K:PySem.W.Frag} {H H':Hp} {a:Addr} {xs:List V} (s:Same H H') (h:dw K H a xs):dw K H' a xs:=by
 rcases h with (h | ⟨o,h⟩) | h
 . exact .inl (.inl (s _ _ h))
 . exact .inl (.inr ⟨o,s _ _ h⟩)
 . exact .inr h
structure LtA (K:PySem.W.Frag) (x y:V) (H:Hp) (Q:VK):Prop where
 h:Wy K x y H Q
theorem afm {X:Cx} (hu:X.A.units<cLine):iD X (compareOp .Lt) (LtA X.K):=fun pins s σ H x y v u Q I rx ry h=>Uj hu pins s σ H x y v u Q I rx ry h.h
theorem wO {α:Type} (xs:List α):(fU xs).length=xs.length-1:=by unfold fU; rw [List.length_zip,List.length_drop]; omega
theorem wQ {α:Type} {xs:List α} {i:Nat} {x y:α} (hx:xs[i]?=some x) (hy:xs[i+1]?=some y):(fU xs)[i]?=some (x,y):=by
 unfold fU
 exact PyProof.Rows.zip_get hx (by rw [List.getElem?_drop,Nat.add_comm]; exact hy)
theorem Ql.bools {H:Hp} {xs:List V} {b:Bool} (h:Ql H xs b):∃ bs:List Bool,bs.length=xs.length-1/\bs.all id=b/\∀ {K:PySem.W.Frag} {i:Nat} {x y:V} {H':Hp} {Q:VK},xs[i]?=some x->xs[i+1]?=some y->Same H H'->(∀ c,bs[i]?=some c->Q (.bl c) H')->LtA K x y H' Q:=by
 rcases h with ⟨is,rfl,rfl⟩ | ⟨as,ks,rfl,pr,rfl⟩
 . refine ⟨(fU is).map fun p=>decide (p.1<p.2),by rw [List.length_map,wO,List.length_map],by unfold sy; rw [List.all_map]; rfl,fun {K i x y H' Q} hx hy s q=>?_⟩
   rw [List.getElem?_map] at hx hy
   cases e1:is[i]? with
   | none=>rw [e1] at hx; cases hx
   | some j =>
     cases e2:is[i+1]? with
     | none=>rw [e2] at hy; cases hy
     | some k =>
       rw [e1] at hx; rw [e2] at hy
       exact ⟨.inl ⟨j,k,(Option.some.inj hx).symm,(Option.some.inj hy).symm,q _ (by rw [List.getElem?_map,wQ e1 e2]; rfl)⟩⟩
 . refine ⟨(fU ks).map fun p=>wH p.1 p.2,by rw [List.length_map,wO,List.length_map,pr.length],by unfold sE; rw [List.all_map]; rfl,fun {K i x y H' Q} hx hy s q=>?_⟩
   rw [List.getElem?_map] at hx hy
   cases e1:as[i]? with
   | none=>rw [e1] at hx; cases hx
   | some j =>
     cases e2:as[i+1]? with
     | none=>rw [e2] at hy; cases hy
     | some k =>
       rw [e1] at hx; rw [e2] at hy
       obtain ⟨k1,g1,h1⟩:=bf pr e1
       obtain ⟨k2,g2,h2⟩:=bf pr e2
       exact ⟨.inr ⟨j,k,k1,k2,(Option.some.inj hx).symm,(Option.some.inj hy).symm,bU.of (s _ _ h1),bU.of (s _ _ h2),q _ (by rw [List.getElem?_map,wQ g1 g2]; rfl)⟩⟩
theorem Bv (xs:List Da) (f:Da->Bool):(xs.map f).all id=xs.all f:=by rw [List.all_map]; rfl
section
variable {P:Program} {w:World} {K:PySem.W.Frag} {mg:Str->Option Value} {base:Heap} {t8 t6 tR tL:Tok}
end
end iG
namespace iG
open PySem L2
section
variable {P:Program} {w:World} {K:PySem.W.Frag} {mg:Str->Option Value} {base:Heap} {t8 t6 tR tL:Tok}
end
end iG
namespace iG
open PySem L2
def sI:Sp:=fun vs H Q _=>∃ (x:V) (h:aB),vs=[x]/\dI H x h/\bL h/\∀ (l:Addr) (zs:List V) (H':Hp),H l=none->H' l=some (.lst zs)->Same H H'->Paired (dJ H') zs (jg h)->Q (.ref l) H'
def wR:Sp:=fun vs H Q _=>∃ (a:Addr) (ss:List Str),vs=[.ref a]/\H a=some (.lst (ss.map V.str))/\ss.length<=3800/\∀ H',Same H H'->Q (.bl (decide ss.Nodup)) H'
theorem zQ {ks:List Key}:∀ i,i<=ks.length->(dY ks i).length=i->(ks.take i).Nodup
 | 0,_,_=>by rw [List.take_zero]; exact List.nodup_nil
 | i+1,hi,h=>by
   have hk:ks[i]?=some ks[i]:=List.getElem?_eq_getElem (by omega)
   have le:=vO ks i
   rw [pO hk] at h
   cases q:vN (dY ks i) ks[i] with
   | true=>rw [q,if_pos rfl] at h; omega
   | false =>
     rw [q,if_neg Bool.false_ne_true,List.length_append] at h
     have h':(dY ks i).length=i:=by simpa using h
     have ih:=zQ i (by omega) h'
     have e:dY ks i=ks.take i:=zR i (by omega) h'
     rw [List.take_add_one,hk]
     rw [List.nodup_append]
     refine ⟨ih,by simp,fun a ha b hb z=>?_⟩
     have hb':b=ks[i]:=by simpa using hb
     rw [hb'] at z
     rw [e] at q
     have:=JG.mpr (show ks[i]∈ks.take i by rw [<- z]; exact ha)
     rw [q] at this; cases this
where zR:∀ i,i<=ks.length->(dY ks i).length=i->dY ks i=ks.take i
 | 0,_,_=>rfl
 | i+1,hi,h=>by
   have hk:ks[i]?=some ks[i]:=List.getElem?_eq_getElem (by omega)
   have le:=vO ks i
   rw [pO hk] at h ⊢
   cases q:vN (dY ks i) ks[i] with
   | true=>rw [q,if_pos rfl] at h; omega
   | false =>
     rw [q,if_neg Bool.false_ne_true,List.length_append] at h
     rw [if_neg Bool.false_ne_true,zR i (by omega) (by simpa using h),List.take_add_one,hk]
     rfl
def qK:Sp:=fun vs H Q _=>∃ (x:V) (hs:List aB),vs=[x]/\fu H x hs/\hs.length<=6/\(∀ h∈hs,bL h)/\∀ (l:Addr) (H':Hp),H l=none->H' l=some (.lst ((namesOf hs).map V.str))->Same H H'->Q (.ref l) H'
theorem oY {α:Type}:∀ {l:List (List α)} {n:Nat},(∀ r∈l,r.length<=n)->l.flatten.length<=l.length * n
 | [],_,_=>by simp
 | r :: l,n,h=>by
   have h1:=h r List.mem_cons_self
   have h2:=oY fun q hq=>h q (List.mem_cons_of_mem _ hq)
   rw [List.flatten_cons,List.length_append,List.length_cons,Nat.succ_mul]
   omega
theorem bL.len {h:aB} (g:bL h):(jg h).length<=625:=by
 have h1:=oY (n:=25) fun r hr=>(g.runs r hr).few
 have h2:h.runs.length * 25<=25 * 25:=Nat.mul_le_mul_right 25 g.few
 show h.runs.flatten.length<=625
 omega
section
variable {P:Program} {w:World} {K:PySem.W.Frag} {mg:Str->Option Value} {base:Heap} {t8 t6 tR tL:Tok}
end
end iG
namespace iG
open PySem L2
theorem JV {z:Str} (h:yZ (.str z)=true):Good z:=by
 simp only [yZ,Bool.and_eq_true,decide_eq_true_iff] at h
 exact ⟨h.1.1,h.1.2,fun c hc=>List.all_eq_true.mp h.2 c hc⟩
def rowOf:Da->Row
 | .tup [.str z,.int j]=>(z,j)
 | _=>(⟨#[]⟩,0)
def runOf:Da->List Row
 | .tup xs=>xs.map rowOf
 | _=>[]
def bD:Da->aB
 | .tup [.str n,.int l,.int h,.int d,.tup rs]=>⟨n,l,h,d,rs.map runOf⟩
 | _=>⟨⟨#[]⟩,0,0,0,[]⟩
def oZ:Da->List aB
 | .tup xs=>xs.map bD
 | _=>[]
theorem Qm {is:List Int} (h:sy is=true):is.Pairwise (·<·):=by
 unfold sy at h
 have key:∀ (l:List Int),(fU l).all (fun p=>decide (p.1<p.2))=true->l.Pairwise (·<·):=by
   intro l
   induction l with
   | nil=>intro _; exact List.Pairwise.nil
   | cons x l ih =>
     intro hl
     cases l with
     | nil=>exact List.pairwise_singleton _ _
     | cons y l =>
       have e:fU (x :: y :: l)=(x,y) :: fU (y :: l):=rfl
       rw [e,List.all_cons] at hl
       obtain ⟨h1,h2⟩:=Bool.and_eq_true_iff.mp hl
       have p:=ih h2
       refine List.pairwise_cons.mpr ⟨fun z hz=>?_,p⟩
       have xy:x<y:=of_decide_eq_true h1
       rcases List.mem_cons.mp hz with e | e
       . rw [e]; exact xy
       . have:=(List.pairwise_cons.mp p).1 z e; omega
 exact key is h
theorem JW {H:Hp}:∀ {vs:List V} {xs:List Da},dg H vs xs->xs.all gD=true->Paired (dJ H) vs (xs.map rowOf)
 | _,_,.nil,_=>.nil
 | _,_,.cons h r,g=>by
   rw [List.all_cons] at g
   obtain ⟨w1,w2⟩:=Bool.and_eq_true_iff.mp g
   refine .cons ?_ (JW r w2)
   obtain ⟨z,j,rfl,_⟩:=m9 w1
   obtain ⟨b,ws,rfl,hb,_,rr⟩:=h.gk
   obtain ⟨_,_,rfl,q1,q2⟩:=rr.two
   cases q1
   cases q2
   exact ⟨b,rfl,hb⟩
theorem Y0 {H:Hp} {v:V} {d:Da} (h:bC H v d) (g:wN d=true):jf H v (runOf d)/\iY (runOf d):=by
 cases h with
 | @tup a vs xs ha Y4 r =>
   have g':(!xs.isEmpty && (xs.all gD && sy (xs.map fun x=>intD (Hl x))))=true:=g
   obtain ⟨g1,g2⟩:=Bool.and_eq_true_iff.mp g'
   obtain ⟨g2,g3⟩:=Bool.and_eq_true_iff.mp g2
   have pr:Paired (dJ H) vs (xs.map rowOf):=JW r g2
   have len:=r.len
   refine ⟨⟨a,vs,rfl,ha,pr⟩,?_,by show (xs.map rowOf).length<=25; rw [List.length_map]; omega,fun x hx=>?_,?_⟩
   . intro e
     have:xs=[]:=by simpa [runOf] using e
     subst this
     cases g1
   . obtain ⟨y,hy,rfl⟩:=List.mem_map.mp hx
     obtain ⟨z,j,rfl,hz⟩:=m9 (List.all_eq_true.mp g2 y hy)
     exact JV hz
   . have e:(xs.map fun x=>intD (Hl x))=(xs.map rowOf).map Prod.snd:=by
       rw [List.map_map]
       refine List.map_congr_left fun y hy=>?_
       obtain ⟨z,j,rfl,_⟩:=m9 (List.all_eq_true.mp g2 y hy)
       rfl
     have:=Qm g3
     rw [e] at this
     exact this
 | _=>cases g
theorem Ho {d:Da} (g:fV d=true):∃ n l h dr rs,d=.tup [.str n,.int l,.int h,.int dr,.tup rs]/\yZ (.str n)=true/\l<=h/\0<=dr/\rs.all wN=true:=by
 unfold fV at g
 split at g
 . rename_i n l h dr r
   obtain ⟨g1,g2⟩:=Bool.and_eq_true_iff.mp g
   unfold oX at g1
   obtain ⟨c1,c2⟩:=Bool.and_eq_true_iff.mp g1
   obtain ⟨c2,c3⟩:=Bool.and_eq_true_iff.mp c2
   obtain ⟨c4,c5⟩:=Bool.and_eq_true_iff.mp c2
   obtain ⟨c5,c6⟩:=Bool.and_eq_true_iff.mp c5
   obtain ⟨c7,c8⟩:=Bool.and_eq_true_iff.mp c3
   cases r with
   | tup rs =>
     cases n with
     | str n =>
       cases l with
       | int l =>
         cases h with
         | int h =>
           cases dr with
           | int dr=>exact ⟨n,l,h,dr,rs,rfl,c1,of_decide_eq_true c7,of_decide_eq_true c8,g2⟩
           | _=>cases c6
         | _=>cases c5
       | _=>cases c4
     | _=>cases c1
   | _=>cases g2
 . cases g
theorem JX {H:Hp}:∀ {vs:List V} {xs:List Da},dg H vs xs->xs.all wN=true->Paired (jf H) vs (xs.map runOf)/\∀ r∈xs.map runOf,iY r
 | _,_,.nil,_=>⟨.nil,fun h hh=>by simp at hh⟩
 | _,_,.cons h r,g=>by
   rw [List.all_cons] at g
   obtain ⟨w1,w2⟩:=Bool.and_eq_true_iff.mp g
   obtain ⟨p1,p2⟩:=JX r w2
   obtain ⟨r1,r2⟩:=Y0 h w1
   refine ⟨.cons r1 p1,fun y hy=>?_⟩
   rw [List.map_cons] at hy
   rcases List.mem_cons.mp hy with e | e
   . rw [e]; exact r2
   . exact p2 y e
theorem Qn {H:Hp} {v:V} {d:Da} (h:bC H v d) (g:fV d=true):dI H v (bD d)/\bL (bD d):=by
 obtain ⟨n,l,hh,dr,rs,rfl,g1,g2,g3,g4⟩:=Ho g
 obtain ⟨a,vs,rfl,ha,_,r⟩:=h.gk
 obtain ⟨_,_,_,_,v5,rfl,q1,q2,q3,q4,q5⟩:=r.five
 cases q1
 cases q2
 cases q3
 cases q4
 obtain ⟨b,ws,rfl,hb,lw,rr⟩:=q5.gk
 have len:=rr.len
 have pr:=JX rr g4
 exact ⟨⟨a,.ref b,rfl,ha,b,ws,rfl,hb,pr.1⟩,JV g1,g2,g3,by show (rs.map runOf).length<=25; rw [List.length_map]; omega,pr.2⟩
theorem uc {H:Hp}:∀ {vs:List V} {xs:List Da},dg H vs xs->xs.all fV=true->Paired (dI H) vs (xs.map bD)/\∀ h∈xs.map bD,bL h
 | _,_,.nil,_=>⟨.nil,fun h hh=>by simp at hh⟩
 | _,_,.cons h r,g=>by
   rw [List.all_cons] at g
   obtain ⟨w1,w2⟩:=Bool.and_eq_true_iff.mp g
   obtain ⟨p1,p2⟩:=uc r w2
   obtain ⟨r1,r2⟩:=Qn h w1
   refine ⟨.cons r1 p1,fun y hy=>?_⟩
   rw [List.map_cons] at hy
   rcases List.mem_cons.mp hy with e | e
   . rw [e]; exact r2
   . exact p2 y e
def iZ:Da->Bool
 | .tup xs=>decide (1<=xs.length) && (decide (xs.length<=6) && (xs.all fV && (decide ((xs.map bD).map aB.name).Nodup && (decide (namesOf (xs.map bD)).Nodup && decide ((namesOf (xs.map bD)).length<=24)))))
 | _=>false
def keyOf:Da->Str × Str
 | .tup (.str a :: .str b :: _)=>(a,b)
 | _=>(⟨#[]⟩,⟨#[]⟩)
def cU (h:aB):List (Str × Str):=(jg h).map fun r=>(r.1,h.name)
def pairsOf (hs:List aB):List (Str × Str):=hs.flatMap cU
theorem Hq (h:aB):(cU h).map Prod.fst=bQ h:=by unfold cU bQ; rw [List.map_map]; rfl
theorem jC (hs:List aB):(pairsOf hs).map Prod.fst=namesOf hs:=by
 unfold pairsOf namesOf
 rw [List.map_flatMap]
 congr 1
 funext h
 exact Hq h
def kW (ps:List (Str × Str)) (n:Str):Option Str:=(ps.find? fun p=>decide (p.1=n)).map Prod.snd
def oA (hs:List aB) (d:Da):Bool:=match kW (pairsOf hs) (keyOf d).1,kW (pairsOf hs) (keyOf d).2 with
 | some a,some b=>!decide (a=b)
 | _,_=>false
def j6 (hs:List aB):Da->Bool
 | .tup xs=>decide (xs.length<=24) && (xs.all eZ && (xs.all (oA hs) && sE (xs.map keyOf)))
 | _=>false
def jx:Da->Bool
 | .tup [h,l]=>iZ h && j6 (oZ h) l
 | _=>false
def LK (kvs:List (Key × V)) (ps:List (Str × Str)):Prop:=∀ n,eU kvs (.inr n)=(kW ps n).map V.str
theorem LK.put {kvs:List (Key × V)} {ps:List (Str × Str)} {p:Str × Str} (h:LK kvs ps) (nw:∀ q∈ps,q.1≠p.1):LK (putK kvs (.inr p.1) (.str p.2)) (ps++[p]):=fun n=>by
 rw [rO]
 unfold kW
 rw [List.find?_append]
 by_cases e:n=p.1
 . subst e
   have z:ps.find? (fun q=>decide (q.1=p.1))=none:=List.find?_eq_none.mpr fun q hq w=>nw q hq (of_decide_eq_true w)
   rw [if_pos rfl,z]
   simp
 . rw [if_neg (fun z=>e (Sum.inr.inj z)),h n]
   unfold kW
   have z:([p]:List (Str × Str)).find? (fun q=>decide (q.1=n))=none:=List.find?_eq_none.mpr fun q hq w=>by
     rw [List.mem_singleton.mp hq] at w
     exact e (of_decide_eq_true w).symm
   rw [z]
   cases ps.find? (fun q=>decide (q.1=n)) <;> rfl
def ud:Sp:=fun vs H Q _=>∃ (x y:V) (hs:List aB) (d:Da),vs=[x,y]/\bC H x d/\fu H y hs/\bA hs/\∀ H',Same H H'->Q (.bl (j6 hs d)) H'
theorem afn {X:Cx}:iD X (compareOp .Eq) (fS fun i j=>.bl (decide (i=j))):=by
 intro pins s σ H x y v u Q I rx ry q
 refine v7 pins s σ H x y v u Q I rx ry ?_
 cases x <;> cases y <;> first
   | exact (show False from q).elim
   | (refine ⟨rfl,?_⟩
      rename_i i j
      have e:decide (V.str i=V.str j)=decide (i=j):=by rw [Bool.eq_iff_iff]; simp
      rw [e]; exact q)
section
variable {P:Program} {w:World} {K:PySem.W.Frag} {mg:Str->Option Value} {base:Heap} {t8 t6 tR tL:Tok}
end
end iG
namespace iG
open PySem L2
theorem Eb {d:Da} (g:eZ d=true):∃ s t l m,d=.tup [.str s,.str t,.int l,m]:=by
 unfold eZ at g
 split at g
 . rename_i s t l m
   obtain ⟨g1,g2⟩:=Bool.and_eq_true_iff.mp g
   obtain ⟨g2,g3⟩:=Bool.and_eq_true_iff.mp g2
   obtain ⟨g3,g4⟩:=Bool.and_eq_true_iff.mp g3
   cases s with
   | str s =>
     cases t with
     | str t =>
       cases l with
       | int l=>exact ⟨s,t,l,m,rfl⟩
       | _=>cases g3
     | _=>cases g2
   | _=>cases g1
 . cases g
def PvH (O:Addr) (hs:List aB) (H1:Hp):Nat->St->Hp->Prop:=fun i σ H'=>∃ (o1 o2 o3:Option V) (kvs:List (Key × V)),σ=[o1,o2,o3]/\H' O=some (.dK kvs)/\kvs.length<=(pairsOf (hs.take i)).length/\LK kvs (pairsOf (hs.take i))/\Same H1 H'
def PvI (c d O:Addr) (hs:List aB) (xs:List Da) (H2:Hp):Nat->St->Hp->Prop:=fun i σ H'=>H'=H2/\(xs.take i).all (oA hs)=true/\∃ (o3 o4 o5 o6:Option V),σ=[some (.ref c),some (.ref d),some (.ref O),o3,o4,o5,o6]
def PvJ (D2:Addr) (xs:List Da) (H2:Hp):Nat->Hp->Prop:=fun i H'=>∃ as:List Addr,eE H' H' D2 (as.map V.ref)/\Same H2 H'/\Paired (fun a k=>H' a=some (.tup ((kP k).map kV))) as ((xs.map keyOf).take i)
def PvK (x:V) (O l:Addr) (hs:List aB) (h:aB) (i:Nat) (zs:List V) (H1 H3:Hp):Nat->St->Hp->Prop:=fun j σ fP=>∃ (o2 o3:Option V) (kvs':List (Key × V)),σ=[some x,o2,o3]/\fP O=some (.dK kvs')/\kvs'.length<=(pairsOf (hs.take i)++(cU h).take j).length/\LK kvs' (pairsOf (hs.take i)++(cU h).take j)/\Same H1 fP/\fP l=some (.lst zs)/\fO H3 fP
section
variable {P:Program} {w:World} {K:PySem.W.Frag} {mg:Str->Option Value} {base:Heap} {t8 t6 tR tL:Tok}
end
end iG
namespace iG
open PySem L2
open Builtin.Int in
theorem abK {X:Cx}:iD X (binaryOp .Mult) (Od IntMulOk fun i j=>.int (i * j)):=(opI fun _ _ _ _ _ _ _ hc q=>PyProof.Rows.mul_int q hc:iD X (binaryOp .Mult) (rI IntMulOk fun i j=>.int (i * j))).Od
def Qo (n:Int):Prop:=Builtin.Int.intBits n<=1048576
def Bw:Sp:=fun vs H Q _=>∃ c:Int,vs=[.int c]/\Builtin.Int.intBits c<=2000000/\∀ n:Int,0<=n->Q (.int n) H
def cB (H:Hp) (p:Addr):Prop:=∃ n:Int,H p=some (.lst [.int n])/\0<=n
def Bx (K:PySem.W.Frag):Sp:=fun vs H Q _=>∃ (a:Addr) (ns:List Int) (k:Int),vs=[.ref a,.int k]/\dw K H a (ns.map V.int)/\(∀ n∈ns,Qo n)/\ns.length<=63/\0<=k/\k<=1000/\∀ (p:Addr) (H':Hp),H p=none->cB H' p->Same H H'->Q (.ref p) H'
def pA:Sp:=fun vs H Q _=>∃ (p:Addr) (m:Int),vs=[.ref p,.int m]/\cB H p/\0<m/\m<1073741824/\∀ (d:Int) (H':Hp),0<=d->d<m->cB H' p->bG p H H'->Q (.int d) H'
section
variable {P:Program} {w:World} {K:PySem.W.Frag} {mg:Str->Option Value} {base:Heap} {t8 t6 tR tL:Tok}
end
end iG
namespace iG
open PySem L2
def Qp:List Nat:=(List.range 26).map (97+·)
def Qq (t:Nat):List Nat:=Qp.drop t++Qp.take t
def sJ (t sz pick k:Nat):List Nat :=
 if pick=0 then List.replicate (1+k % 8) ((Qq t).getD (k / 8) 0) else if pick=1 then (Qq t).getD (k % 26) 0 :: ((Qq t).drop 4).take sz else ((Qq t).drop 4).take sz++[(Qq t).getD (k % 26) 0]
def JZ (l:List (List Nat)):Bool:=decide l.Nodup && l.all fun s=>decide (1<=s.length) && decide (s.length<=8) && s.all low
def qL:List Nat:=[113,113,113,113,113,113,113,114]
def qS:Str:=⟨qL.toArray⟩
theorem BJ:((List.range 26).all fun t=>(List.range 8).all fun sz=>(List.range 3).all fun pick=>(List.range 12).all fun k=>!decide (sJ t sz pick k=qL))=true:=by decide +kernel
theorem Ec:((List.range 26).all fun t=>(List.range 8).all fun sz=>(List.range 3).all fun pick=>JZ ((List.range 12).map (sJ t sz pick)))=true:=by decide +kernel
def nameS (t sz pick k:Nat):Str:=⟨(sJ t sz pick k).toArray⟩
def eX (t sz pick:Nat):List Str:=(List.range 12).map (nameS t sz pick)
theorem LQ {t sz pick:Nat} (ht:t<26) (hz:sz<8) (hp:pick<3):(eX t sz pick).Nodup/\∀ s∈eX t sz pick,Good s:=by
 have h:=List.all_eq_true.mp (List.all_eq_true.mp (List.all_eq_true.mp Ec t (List.mem_range.mpr ht)) sz (List.mem_range.mpr hz)) pick (List.mem_range.mpr hp)
 unfold JZ at h
 obtain ⟨h1,h2⟩:=Bool.and_eq_true_iff.mp h
 have h1':=of_decide_eq_true h1
 constructor
 . unfold eX
   rw [List.nodup_iff_pairwise_ne,List.pairwise_map] at h1' ⊢
   refine h1'.imp fun {a b} z e=>z ?_
   have:=congrArg (fun s:Str=>s.cps.toList) e
   simpa [nameS] using this
 . intro s hs
   obtain ⟨k,hk,rfl⟩:=List.mem_map.mp hs
   have h3:=List.all_eq_true.mp h2 (sJ t sz pick k) (List.mem_map.mpr ⟨k,hk,rfl⟩)
   obtain ⟨h4,h5⟩:=Bool.and_eq_true_iff.mp h3
   obtain ⟨h6,h7⟩:=Bool.and_eq_true_iff.mp h4
   refine ⟨?_,?_,fun c hc=>List.all_eq_true.mp h5 c (by simpa [nameS] using hc)⟩
   . have:=of_decide_eq_true h6; simpa [nameS,Str.length] using this
   . have:=of_decide_eq_true h7; simpa [nameS,Str.length] using this
theorem Qs {t sz pick:Nat} (ht:t<26) (hz:sz<8) (hp:pick<3):∀ s∈eX t sz pick,s≠qS:=by
 intro s hs e
 obtain ⟨k,hk,rfl⟩:=List.mem_map.mp hs
 have h:=List.all_eq_true.mp (List.all_eq_true.mp (List.all_eq_true.mp (List.all_eq_true.mp BJ t (List.mem_range.mpr ht)) sz (List.mem_range.mpr hz)) pick (List.mem_range.mpr hp)) k hk
 have:=congrArg (fun s:Str=>s.cps.toList) e
 have e2:sJ t sz pick k=qL:=by simpa [nameS,qS] using this
 rw [e2] at h
 exact absurd h (by decide)
def abc:Str:="abcdefghijklmnopqrstuvwxyz"
theorem Y5:abc.cps.toList=Qp:=by decide +kernel
theorem vR {t:Nat} (h:t<=26):(Qq t).length=26:=by
 unfold Qq
 rw [List.length_append,List.length_drop,List.length_take,show Qp.length=26 by decide]
 omega
theorem BK:abc.length=26:=by decide +kernel
theorem Qt {t:Nat} (ht:t<=26):(PySem.Txt.slice abc (some (t:Int)) none++PySem.Txt.slice abc none (some (t:Int))).cps.toList=Qq t:=by
 rw [app_list,Pq,wB]
 unfold Pn Qq
 rw [HT.gZ,HT.jz,BK,Y5,Nat.min_eq_left ht,List.take_of_length_le (by rw [List.length_drop,show Qp.length=26 by decide]; omega)]
theorem wU {l:List Nat} {k:Int} (h0:0<=k) (h1:k<l.length):Ay l k=some (l.getD k.toNat 0):=by
 obtain ⟨n,rfl⟩:=Int.eq_ofNat_of_zero_le h0
 refine iR ?_
 have hn:n<l.length:=by omega
 rw [List.getElem?_eq_getElem hn]
 simp [List.getD,hn]
def BL:Sp:=fun vs H Q _=>∃ (p:Addr),vs=[.ref p,.int 12]/\cB H p/\∀ (l:Addr) (ss:List Str) (H':Hp),H l=none->H' l=some (.lst (ss.map V.str))->ss.length=12->ss.Nodup->(∀ s∈ss,Good s)->(∀ s∈ss,s≠qS)->cB H' p->bG p H H'->Q (.ref l) H'
section
variable {P:Program} {w:World} {K:PySem.W.Frag} {mg:Str->Option Value} {base:Heap} {t8 t6 tR tL:Tok}
end
end iG
namespace iG
open PySem L2
def LR (r:Row):PyData:=.tuple [.str r.1,.int r.2]
def wV (rs:List Row):PyData:=.list (rs.map LR)
theorem Good.ok {z:Str} (g:Good z):PyData.strOk z=true:=by
 unfold PyData.strOk
 rw [Array.all_eq_true_iff_forall_mem]
 intro c hc
 have h:=g.all c (by simpa using hc)
 unfold low at h
 have h2:=of_decide_eq_true (Bool.and_eq_true_iff.mp h).2
 exact decide_eq_true (by omega)
theorem Ed:∀ {rs:List Row},(∀ r∈rs,Good r.1)->SeqAt.shaped (wV rs)=true:=by
 intro rs h
 have h1:PyData.canLayAll0 (rs.map LR)=true:=by
   induction rs with
   | nil=>rfl
   | cons r rs ih =>
     rw [List.map_cons]
     unfold PyData.canLayAll0
     rw [ih fun q hq=>h q (List.mem_cons_of_mem _ hq),Bool.and_true]
     unfold LR PyData.canLay0 PyData.canLayAll0
     have z:=(h r List.mem_cons_self).ok
     simp [PyData.canLay0,PyData.canLayAll0,z]
 have h2:PyData.depthAll (rs.map LR)<=1:=by
   clear h h1
   induction rs with
   | nil=>exact Nat.zero_le _
   | cons r rs ih =>
     rw [List.map_cons]
     unfold PyData.depthAll
     have e:PyData.depth (LR r)=1:=by simp [LR,PyData.depth,PyData.depthAll]
     rw [e]
     omega
 unfold SeqAt.shaped wV
 rw [Bool.and_eq_true]
 refine ⟨?_,?_⟩
 . unfold PyData.canLay0; exact h1
 . unfold PyData.depth; exact decide_eq_true (by omega)
theorem Ur {K:PySem.W.Frag} {H:Hp} {a:Addr} {vs:List V} {rs:List Row} (ha:H a=some (.lst vs)) (p:Paired (dJ H) vs rs):Dp K H (.ref a) (wV rs):=by
 refine .lst (dw.of ha) ?_
 clear ha
 induction p with
 | nil=>exact .nil
 | cons h _ ih =>
   obtain ⟨b,rfl,hb⟩:=h
   exact .cons (.tup (bU.of hb) (.cons (.str _) (.cons (.int _) .nil))) ih
theorem Qu (rs:List Row):PyData.eqv (wV rs) (.list [])=rs.isEmpty:=by
 cases rs with
 | nil=>simp [wV,PyData.eqv,PyData.eqvAll]
 | cons r rs=>simp [wV,PyData.eqv,PyData.eqvAll]
structure WL (K:PySem.W.Frag) (x y:V) (H:Hp) (Q:VK):Prop where
 h:abt K x y H Q
theorem Hr {X:Cx} (hu:X.A.units+64<cLine):iD X (compareOp .NotEq) (WL X.K):=fun pins s σ H x y v u Q I rx ry h=>Yo hu pins s σ H x y v u Q I rx ry h.h
theorem Qv {K:PySem.W.Frag} {H:Hp} {a l:Addr} {vs:List V} {rs:List Row} {Q:VK} (ha:H a=some (.lst vs)) (p:Paired (dJ H) vs rs) (g:∀ r∈rs,Good r.1) (hl:H l=some (.lst [])) (q:Q (.bl (!rs.isEmpty)) H):WL K (.ref a) (.ref l) H Q :=
 ⟨wV rs,.list [],Ur ha p,.lst (dw.of hl) .nil,Ed g,rfl,by rw [Qu]; exact q⟩
theorem Ef {α:Type} {xs:List α} {x:α}:Ay (xs++[x]) (-1)=some x:=by
 unfold Ay TF
 have e:(xs++[x]).length=xs.length+1:=by simp
 rw [e,if_neg (by decide),if_pos (by omega)]
 have e2:((-1:Int)+((xs.length+1:Nat):Int)).toNat=xs.length:=by omega
 rw [e2]
 simp
structure HS (H0:Hp) (p R D:Addr) (ss:List Str) (room:Int) (H:Hp) (vr:List V) (kvs:List (Key × V)) (runs:List (List Row)) (m:Nat):Prop where
 pack:cB H p
 same:bG p H0 H
 hR:H R=some (.lst vr)
 pR:Paired (jf H) vr runs
 hD:H D=some (.dK kvs)
 keys:kvs.map (·.1)=(ss.take m).map Sum.inr
 vals:∀ n∈ss.take m,∃ i:Int,eU kvs (.inr n)=some (.int i)
 le:m<=ss.length
 rm:(m:Int)<=room∨m=0
 good:∀ r∈runs,iY r
theorem bG.tups {p:Addr} {H H':Hp} (hp:cB H p) (s:bG p H H'):fO H H':=fun b xs e=>s b _ (fun z=>by obtain ⟨n,e',_⟩:=hp; rw [z,e'] at e; cases e) e
section
variable {H0 H H':Hp} {p R D:Addr} {ss:List Str} {room:Int} {vr:List V} {kvs:List (Key × V)} {runs:List (List Row)} {m:Nat}
theorem HS.step (h:HS H0 p R D ss room H vr kvs runs m) (nR:R≠p) (nD:D≠p) (pk:cB H' p) (s:bG p H H'):HS H0 p R D ss room H' vr kvs runs m :=
 ⟨pk,h.same.trans s,s _ _ nR h.hR,aK (fun _ _ z=>z.ts (bG.tups h.pack s)) h.pR,s _ _ nD h.hD,h.keys,h.vals,h.le,h.rm,h.good⟩
theorem cB.new {q:Addr} {o:HO} (h:cB H p) (hq:H q=none):cB (upd H q o) p:=by
 obtain ⟨n,e,n0⟩:=h
 exact ⟨n,by rw [aL (aM e hq)]; exact e,n0⟩
theorem cB.put {q:Addr} {o:HO} (h:cB H p) (hq:q≠p):cB (upd H q o) p:=by
 obtain ⟨n,e,n0⟩:=h
 exact ⟨n,by rw [aL (Ne.symm hq)]; exact e,n0⟩
theorem HS.new {q:Addr} {o:HO} (h:HS H0 p R D ss room H vr kvs runs m) (nR:R≠p) (nD:D≠p) (hq:H q=none):HS H0 p R D ss room (upd H q o) vr kvs runs m :=
 h.step nR nD (h.pack.new hq) ((bG.of (Same.refl H)).new hq)
theorem Eh {kvs:List (Key × V)} {k:Key} {v:V} (h:k ∉ kvs.map (·.1)):putK kvs k v=kvs++[(k,v)]:=by
 unfold putK
 rw [if_neg]
 intro z
 obtain ⟨x,hx,e⟩:=List.any_eq_true.mp z
 exact h (List.mem_map.mpr ⟨x,hx,of_decide_eq_true e⟩)
theorem wW {n:Str} (hm:ss[m]?=some n):ss.take (m+1)=ss.take m++[n]:=by rw [List.take_add_one,hm]; rfl
theorem zT {n:Str} (nd:ss.Nodup) (hm:ss[m]?=some n):n ∉ ss.take m:=fun z=>by
 obtain ⟨j,hj,ej⟩:=List.mem_iff_getElem.mp z
 obtain ⟨hl,el⟩:=List.getElem?_eq_some_iff.mp hm
 rw [List.length_take] at hj
 rw [List.getElem_take] at ej
 have:=(List.getElem_inj (i:=j) (j:=m) (h₀:=by omega) (h₁:=hl) nd).mp (ej.trans el.symm)
 omega
theorem HS.put {L tp:Addr} {vl:List V} {rs:List Row} {n:Str} {mo rd:Int} (h:HS H0 p R D ss room H vr kvs runs m) (nR:R≠p) (nD:D≠p) (nRD:R≠D) (nL:L≠p) (nLR:L≠R) (nLD:L≠D) (f0:H0 D=none) (fL:H0 L=none)
   (nd:ss.Nodup) (hm:ss[m]?=some n) (hr:(m:Int)<room) (hL:H L=some (.lst vl)) (pl:Paired (dJ H) vl rs) (ht:upd H D (.dK (putK kvs (.inr n) (.int mo))) tp=none) :
   HS H0 p R D ss room (upd (upd (upd H D (.dK (putK kvs (.inr n) (.int mo)))) tp (.tup [.str n,.int rd])) L (.lst (vl++[.ref tp]))) vr (putK kvs (.inr n) (.int mo)) runs (m+1) /\
   Paired (dJ (upd (upd (upd H D (.dK (putK kvs (.inr n) (.int mo)))) tp (.tup [.str n,.int rd])) L (.lst (vl++[.ref tp])))) (vl++[.ref tp]) (rs++[(n,rd)]):=by
 have t1:fO H (upd H D (.dK (putK kvs (.inr n) (.int mo)))):=(fO.refl H).put h.hD (fun _ z=>nomatch z)
 have t2:fO H (upd (upd H D (.dK (putK kvs (.inr n) (.int mo)))) tp (.tup [.str n,.int rd])):=t1.new ht
 have hL1:upd H D (.dK (putK kvs (.inr n) (.int mo))) L=some (.lst vl):=by rw [aL nLD]; exact hL
 have nLt:L≠tp:=aM hL1 ht
 have hL2:upd (upd H D (.dK (putK kvs (.inr n) (.int mo)))) tp (.tup [.str n,.int rd]) L=some (.lst vl):=by rw [aL nLt]; exact hL1
 have t3:=t2.put (o:=.lst (vl++[.ref tp])) hL2 (fun _ z=>nomatch z)
 have hle:m<ss.length:=(List.getElem?_eq_some_iff.mp hm).1
 have afp:(Sum.inr n:Key) ∉ kvs.map (·.1):=fun z=>by
   rw [h.keys] at z
   obtain ⟨y,hy,e⟩:=List.mem_map.mp z
   exact zT nd hm (by rw [<- Sum.inr.inj e]; exact hy)
 refine ⟨⟨((h.pack.put nD).new ht).put nL,?_,?_,aK (fun _ _ z=>z.ts t3) h.pR,?_,?_,?_,hle,.inl (by omega),h.good⟩,?_⟩
 . intro b o hb e
   have n1:b≠D:=aM e f0
   have n2:b≠L:=aM e fL
   have e1:upd H D (.dK (putK kvs (.inr n) (.int mo))) b=some o:=by rw [aL n1]; exact h.same b o hb e
   rw [aL n2,aL (aM e1 ht)]
   exact e1
 . have e1:upd H D (.dK (putK kvs (.inr n) (.int mo))) R=some (.lst vr):=by rw [aL nRD]; exact h.hR
   rw [aL (Ne.symm nLR),aL (aM e1 ht)]
   exact e1
 . have e1:upd H D (.dK (putK kvs (.inr n) (.int mo))) D=some (.dK (putK kvs (.inr n) (.int mo))):=ao
   rw [aL (Ne.symm nLD),aL (aM e1 ht)]
   exact e1
 . rw [Eh afp,List.map_append,h.keys,wW hm,List.map_append]; rfl
 . intro x hx
   rw [wW hm] at hx
   rw [rO]
   by_cases e:(Sum.inr x:Key)=Sum.inr n
   . exact ⟨mo,if_pos e⟩
   . rw [if_neg e]
     rcases List.mem_append.mp hx with z | z
     . exact h.vals x z
     . exact absurd (by rw [List.mem_singleton.mp z]) e
 . refine cQ (aK (fun _ _ z=>z.ts t3) pl) (.cons ⟨tp,rfl,?_⟩ .nil)
   rw [aL (Ne.symm nLt),ao]
end
theorem Ma {rs:List Row} {n:Str} {rd:Int} (h:(rs.map Prod.snd).Pairwise (·<·)) (g:∀ r∈rs,r.2<rd):((rs++[(n,rd)]).map Prod.snd).Pairwise (·<·):=by
 rw [List.map_append,List.pairwise_append]
 refine ⟨h,List.pairwise_singleton _ _,fun a ha b hb=>?_⟩
 obtain ⟨r,hr,rfl⟩:=List.mem_map.mp ha
 have e:b=rd:=by simpa using hb
 rw [e]; exact g r hr
theorem WM {a b c e d:Int} (h0:0<=d) (h4:d<4) (ha:0<=a/\a<=300) (hb:0<=b/\b<=300) (hc:0<=c/\c<=300) (he:0<=e/\e<=300):∃ w:Int,Ay [V.int a,.int b,.int c,.int e] d=some (.int w)/\0<=w/\w<=300:=by
 obtain ⟨n,rfl⟩:=Int.eq_ofNat_of_zero_le h0
 match n,h4 with
 | 0,_=>exact ⟨a,rfl,ha⟩
 | 1,_=>exact ⟨b,rfl,hb⟩
 | 2,_=>exact ⟨c,rfl,hc⟩
 | 3,_=>exact ⟨e,rfl,he⟩
 | n+4,h=>exact absurd h (by omega)
def NvR (p ln R D L:Addr) (nm:Str) (room low wide aN Hs mo:Int) (m:Nat) (x11 x14:V) (H:Hp) (ss:List Str) (vr vl:List V) (kvs:List (Key × V)) (runs:List (List Row)) (rs:List Row) (F:Int->Prop):St->Hp->Prop:=fun σ' H'=>∃ rd:Int,σ'=[some (.ref p),some (.str nm),some (.ref ln),some (.int room),some (.int low),some (.int wide),some (.int aN),some (.int mo),some (.ref R),some (.ref D),some (.int (m:Int)),some x11,some (.int (low+Hs)),some (.ref L),some x14,some (.int rd)]/\HS H p R D ss room H' vr kvs runs m/\H' L=some (.lst vl)/\Paired (dJ H') vl rs/\F rd
section
variable {P:Program} {w:World} {K:PySem.W.Frag} {mg:Str->Option Value} {base:Heap} {t8 t6 tR tL:Tok}
end
end iG
namespace iG
open PySem L2
theorem afq {X:Cx}:iD X (compareOp .NotEq) (fS fun i j=>.bl (!decide (i=j))):=by
 intro pins s σ H x y v u Q I rx ry q
 refine Dh pins s σ H x y v u Q I rx ry ?_
 cases x <;> cases y <;> first
   | exact (show False from q).elim
   | (refine ⟨rfl,?_⟩
      rename_i i j
      have e:decide (V.str i=V.str j)=decide (i=j):=by rw [Bool.eq_iff_iff]; simp
      rw [e]; exact q)
theorem Qw {κ:Type} [DecidableEq κ] {kvs:List (κ × V)} {k:κ} {v:V} {x:κ × V} (h:x∈putK kvs k v):x=(k,v)∨x∈kvs:=by
 unfold putK at h
 split at h
 . obtain ⟨y,hy,e⟩:=List.mem_map.mp h
   split at e
   . rename_i c
     exact .inl (by rw [<- e,c])
   . exact .inr (by rw [<- e]; exact hy)
 . rcases List.mem_append.mp h with z | z
   . exact .inr z
   . exact .inl (List.mem_singleton.mp z)
theorem Qx {κ:Type} [DecidableEq κ] {kvs:List (κ × V)} {k:κ} (h:k∈kvs.map (·.1)):∃ v,eU kvs k=some v/\(k,v)∈kvs:=by
 induction kvs with
 | nil=>simp at h
 | cons x r ih =>
   by_cases e:x.1=k
   . refine ⟨x.2,fJ e,?_⟩
     rw [<- e]; exact List.mem_cons_self
   . rw [List.map_cons] at h
     rcases List.mem_cons.mp h with z | z
     . exact absurd z.symm e
     . obtain ⟨v,h1,h2⟩:=ih z
       exact ⟨v,by rw [fK e]; exact h1,List.mem_cons_of_mem _ h2⟩
def qy (kvs:List (Key × V)) (ps:List (Str × Str)):Prop:=∀ p∈ps,eU kvs (.inr p.1)=some (.str p.2)
theorem qy.put {kvs:List (Key × V)} {ps:List (Str × Str)} {p:Str × Str} (h:qy kvs ps) (n:∀ q∈ps,q.1≠p.1):qy (putK kvs (.inr p.1) (.str p.2)) (ps++[p]):=fun q hq=>by
 rw [rO]
 rcases List.mem_append.mp hq with z | z
 . rw [if_neg (fun e=>n q z (Sum.inr.inj e))]; exact h q z
 . rw [List.mem_singleton.mp z,if_pos rfl]
def vU (hs:List aB) (H:Hp) (kf:List (List Key × V)):Prop:=∀ kv∈kf,∃ l:Letter,kv.1=kP l.1/\dM H kv.2 l/\m7 hs l
theorem vU.keys {hs:List aB} {H:Hp}:∀ {kf:List (List Key × V)},vU hs H kf->∃ ks:List (Str × Str),kf.map (·.1)=ks.map kP/\ks.length=kf.length
 | [],_=>⟨[],rfl,rfl⟩
 | kv :: r,h=>by
   obtain ⟨l,e,_⟩:=h kv List.mem_cons_self
   obtain ⟨ks,e2,e3⟩:=vU.keys (kf:=r) fun x hx=>h x (List.mem_cons_of_mem _ hx)
   exact ⟨l.1 :: ks,by rw [List.map_cons,List.map_cons,e,e2],by simp [e3]⟩
def dW (nm:Str) (r:List Row):List (Str × Str):=r.map fun x=>(x.1,nm)
theorem vd (h:aB):cU h=h.runs.flatMap (dW h.name):=by
 unfold cU jg dW
 rw [List.map_flatten,List.flatMap_def]
theorem Ei {hs:List aB} {kvs:List (Key × V)} {n:Str} (ow:qy kvs (pairsOf hs)) (h:n∈namesOf hs):∃ hh∈hs,n∈bQ hh/\eU kvs (.inr n)=some (.str hh.name):=by
 obtain ⟨hh,m,hn⟩:=List.mem_flatMap.mp h
 refine ⟨hh,m,hn,ow (n,hh.name) (List.mem_flatMap.mpr ⟨hh,m,?_⟩)⟩
 obtain ⟨r,hr,er⟩:=List.mem_map.mp hn
 exact List.mem_map.mpr ⟨r,hr,by rw [er]⟩
theorem wX {hs:List aB} (g:∀ h∈hs,bL h) {n:Str} (h:n∈namesOf hs):Good n:=by
 obtain ⟨hh,m,hn⟩:=List.mem_flatMap.mp h
 obtain ⟨r,hr,er⟩:=List.mem_map.mp hn
 obtain ⟨run,hrun,hr2⟩:=List.mem_flatten.mp hr
 rw [<- er]
 exact ((g hh m).runs run hrun).names r hr2
def PvC (p lh dh O:Addr) (hs:List aB) (H:Hp):Nat->St->Hp->Prop:=fun i σ H'=>∃ (kv:List (Key × V)) (o4 o5 o6 o7:Option V),σ=[some (.ref p),some (.ref lh),some (.ref dh),some (.ref O),o4,o5,o6,o7,none,none,none,none,none,none,none,none]/\H' O=some (.dK kv)/\qy kv (pairsOf (hs.take i))/\kv.length<=(pairsOf (hs.take i)).length/\Same H H'
def PvD (p lh dh O a:Addr) (hs:List aB) (hh:aB) (i:Nat) (H:Hp):Nat->St->Hp->Prop:=fun j σ H'=>∃ (kv:List (Key × V)) (o5 o6 o7:Option V),σ=[some (.ref p),some (.ref lh),some (.ref dh),some (.ref O),some (.ref a),o5,o6,o7,none,none,none,none,none,none,none,none]/\H' O=some (.dK kv)/\qy kv (pairsOf (hs.take i)++(hh.runs.take j).flatMap (dW hh.name))/\kv.length<=(pairsOf (hs.take i)++(hh.runs.take j).flatMap (dW hh.name)).length/\Same H H'
def PvE (p lh dh O a c2:Addr) (hs:List aB) (hh:aB) (i j:Nat) (r:List Row) (H:Hp):Nat->St->Hp->Prop:=fun t σ H'=>∃ (kv:List (Key × V)) (o6 o7:Option V),σ=[some (.ref p),some (.ref lh),some (.ref dh),some (.ref O),some (.ref a),some (.ref c2),o6,o7,none,none,none,none,none,none,none,none]/\H' O=some (.dK kv)/\qy kv (pairsOf (hs.take i)++(hh.runs.take j).flatMap (dW hh.name)++(dW hh.name r).take t)/\kv.length<=(pairsOf (hs.take i)++(hh.runs.take j).flatMap (dW hh.name)++(dW hh.name r).take t).length/\Same H H'
section
variable {P:Program} {w:World} {K:PySem.W.Frag} {mg:Str->Option Value} {base:Heap} {t8 t6 tR tL:Tok}
end
end iG
namespace iG
open PySem L2
def Qy:List Str:=["me","you","abcdefgh","z"]
theorem Us:∀ s∈Qy,Good s:=by
 have h:Qy.all (fun s=>decide (1<=s.length) && decide (s.length<=8) && s.cps.toList.all low)=true:=by decide +kernel
 intro s hs
 obtain ⟨h1,h2⟩:=Bool.and_eq_true_iff.mp (List.all_eq_true.mp h s hs)
 obtain ⟨h3,h4⟩:=Bool.and_eq_true_iff.mp h1
 exact ⟨of_decide_eq_true h3,of_decide_eq_true h4,fun c hc=>List.all_eq_true.mp h2 c hc⟩
theorem Qz:Qy.Nodup:=by decide +kernel
theorem j7 {p:Addr} {H Ha Hb:Hp} (s:Same H Ha) (n:H p=none) (b:bG p Ha Hb):Same H Hb:=fun c o e=>b c o (fun z=>by rw [z,n] at e; cases e) (s c o e)
theorem wY:∀ (more kvs:List (Key × V)),(more.map (·.1)).Nodup->(∀ k∈more.map (·.1),k ∉ kvs.map (·.1))->qF kvs more=kvs++more
 | [],kvs,_,_=>by rw [List.append_nil]; rfl
 | x :: r,kvs,nd,dj=>by
   rw [List.map_cons] at nd dj
   have nd':=List.nodup_cons.mp nd
   show qF (putK kvs x.1 x.2) r=_
   rw [Eh (dj x.1 List.mem_cons_self),wY r _ nd'.2,List.append_assoc]
   . rfl
   . intro k hk z
     rw [List.map_append] at z
     rcases List.mem_append.mp z with z | z
     . exact dj k (List.mem_cons_of_mem _ hk) z
     . have:k=x.1:=by simpa using z
       exact nd'.1 (by rw [<- this]; exact hk)
theorem wZ {kvs more:List (Key × V)} {k:Key}:eU (kvs++more) k=(eU kvs k).or (eU more k):=by
 unfold eU
 rw [List.find?_append]
 cases kvs.find? (fun kv=>decide (kv.1=k)) <;> rfl
theorem zU {kvs:List (Key × V)} {k:Key} (h:k ∉ kvs.map (·.1)):eU kvs k=none:=by
 cases e:eU kvs k with
 | none=>rfl
 | some v=>exact absurd (T5 e) h
section
variable {P:Program} {w:World} {K:PySem.W.Frag} {mg:Str->Option Value} {base:Heap} {t8 t6 tR tL:Tok}
end
end iG
namespace iG
open PySem L2
def kY (r:Row):Da:=.tup [.str r.1,.int r.2]
def jD (rs:List Row):Da:=.tup (rs.map kY)
def xq (rs:List (List Row)):Da:=.tup (rs.map jD)
def cD (h:aB):Da:=.tup [.str h.name,.int h.low,.int h.high,.int h.aN,xq h.runs]
def bN (hs:List aB):Da:=.tup (hs.map cD)
def pB:Option Int->Da
 | none=>.non
 | some i=>.int i
def bO (l:Letter):Da:=.tup [.str l.1.1,.str l.1.2,.int l.2.1,pB l.2.2]
def bB (ls:List Letter):Da:=.tup (ls.map bO)
theorem Good.da {H:Hp} {z:Str} (g:Good z):bC H (.str z) (.str z):=.str z (by have:=g.hi; have mR:sizeLine=16777216:=sizeLine_eq; omega)
theorem jR {α:Type} {H:Hp} {R:V->α->Prop} {f:α->Da} {vs:List V} {xs:List α} (p:Paired R vs xs) (h:∀ v x,x∈xs->R v x->bC H v (f x)):dg H vs (xs.map f):=by
 induction p with
 | nil=>exact .nil
 | cons r _ ih=>exact .cons (h _ _ (List.mem_cons_self ..) r) (ih fun v x hx=>h v x (List.mem_cons_of_mem _ hx))
section
variable {H:Hp} {v:V}
theorem dJ.da {r:Row} (h:dJ H v r) (g:Good r.1):bC H v (kY r):=by
 obtain ⟨a,rfl,e⟩:=h
 exact .tup e (show 2<=25 by decide) (.cons g.da (.cons (.int _) .nil))
theorem jf.da {r:List Row} (h:jf H v r) (g:iY r):bC H v (jD r):=by
 obtain ⟨a,vs,rfl,e,p⟩:=h
 exact .tup e (by rw [p.length]; exact g.few) (jR p fun v x hx q=>q.da (g.names x hx))
theorem lM.da {rs:List (List Row)} (h:lM H v rs) (few:rs.length<=25) (g:∀ r∈rs,iY r):bC H v (xq rs):=by
 obtain ⟨a,vs,rfl,e,p⟩:=h
 exact .tup e (by rw [p.length]; exact few) (jR p fun v x hx q=>q.da (g x hx))
theorem dI.da {h:aB} (a:dI H v h) (g:bL h):bC H v (cD h):=by
 obtain ⟨a,b,rfl,e,p⟩:=a
 exact .tup e (show 5<=25 by decide) (.cons g.name.da (.cons (.int _) (.cons (.int _) (.cons (.int _) (.cons (p.da g.few g.runs) .nil)))))
theorem fu.da {hs:List aB} (a:fu H v hs) (few:hs.length<=25) (g:∀ h∈hs,bL h):bC H v (bN hs):=by
 obtain ⟨a,vs,rfl,e,p⟩:=a
 exact .tup e (by rw [p.length]; exact few) (jR p fun v x hx q=>q.da (g x hx))
theorem Ut {m:Option Int}:bC H (jM m) (pB m):=by
 cases m with
 | none=>exact .non
 | some i=>exact .int i
theorem dM.da {l:Letter} (h:dM H v l) (g1:Good l.1.1) (g2:Good l.1.2):bC H v (bO l):=by
 obtain ⟨a,rfl,e⟩:=h
 exact .tup e (show 4<=25 by decide) (.cons g1.da (.cons g2.da (.cons (.int _) (.cons Ut .nil))))
theorem fB.da {ls:List Letter} (h:fB H v ls) (few:ls.length<=25) (g:∀ l∈ls,Good l.1.1/\Good l.1.2):bC H v (bB ls):=by
 obtain ⟨a,vs,rfl,e,p⟩:=h
 exact .tup e (by rw [p.length]; exact few) (jR p fun v x hx q=>q.da (g x hx).1 (g x hx).2)
end
theorem uf {α:Type} {R:α->α->Prop}:∀ {l:List α},l.Pairwise R->∀ p∈fU l,R p.1 p.2
 | [],_,p,hp=>by simp [fU] at hp
 | [x],_,p,hp=>by simp [fU] at hp
 | x :: y :: l,h,p,hp=>by
   have e:fU (x :: y :: l)=(x,y) :: fU (y :: l):=rfl
   rw [e] at hp
   rcases List.mem_cons.mp hp with z | z
   . rw [z]; exact (List.pairwise_cons.mp h).1 y (List.mem_cons_self ..)
   . exact uf (List.pairwise_cons.mp h).2 p z
theorem QB {is:List Int} (h:is.Pairwise (·<·)):sy is=true:=List.all_eq_true.mpr fun p hp=>decide_eq_true (uf h p hp)
theorem QC {ks:List (Str × Str)} (h:ks.Pairwise (fun a b=>wH a b=true)):sE ks=true:=List.all_eq_true.mpr fun p hp=>uf h p hp
theorem QD {r:Row} (g:Good r.1):gD (kY r)=true:=by
 show (qt (.str r.1) && iM (.int r.2))=true
 rw [show qt (.str r.1)=true from g.yZ]
 rfl
theorem Y6 {rs:List Row} (g:iY rs):wN (jD rs)=true:=by
 show (!(rs.map kY).isEmpty && ((rs.map kY).all gD && sy ((rs.map kY).map fun x=>intD (Hl x))))=true
 have h1:(rs.map kY).isEmpty=false:=by
   have:=g.ne
   cases rs with
   | nil=>exact absurd rfl this
   | cons x xs=>rfl
 have h2:(rs.map kY).all gD=true:=List.all_eq_true.mpr fun d hd=>by
   obtain ⟨r,hr,rfl⟩:=List.mem_map.mp hd
   exact QD (g.names r hr)
 have h3:((rs.map kY).map fun x=>intD (Hl x))=rs.map Prod.snd:=by rw [List.map_map]; rfl
 rw [h1,h2,h3,QB g.rise]
 rfl
theorem Uu {rs:List (List Row)} (g:∀ r∈rs,iY r):JR (xq rs)=true:=by
 show (rs.map jD).all wN=true
 exact List.all_eq_true.mpr fun d hd=>by
   obtain ⟨r,hr,rfl⟩:=List.mem_map.mp hd
   exact Y6 (g r hr)
theorem QF {n:Str} {l h d:Int} (g:Good n) (hw:l<=h) (hd:0<=d):oX (.str n) (.int l) (.int h) (.int d)=true:=by
 unfold oX
 rw [show qt (.str n)=true from g.yZ]
 show (true && ((true && (true && true)) && (decide (l<=h) && decide (0<=d))))=true
 rw [decide_eq_true hw,decide_eq_true hd]
 rfl
theorem QG {h:aB} (g:bL h):fV (cD h)=true:=by
 show (oX (.str h.name) (.int h.low) (.int h.high) (.int h.aN) && JR (xq h.runs))=true
 rw [QF g.name g.wide g.aN,Uu g.runs]
 rfl
theorem QH (r:List Row):runOf (jD r)=r:=by
 show (r.map kY).map rowOf=r
 rw [List.map_map]
 exact List.map_id r
theorem Ht (h:aB):bD (cD h)=h:=by
 show aB.mk h.name h.low h.high h.aN ((h.runs.map jD).map runOf)=h
 rw [List.map_map,show runOf∘jD=id from funext QH,List.map_id]
theorem iH (hs:List aB):(hs.map cD).map bD=hs:=by
 rw [List.map_map,show bD∘cD=id from funext Ht,List.map_id]
theorem Mf {hs:List aB} (g:bA hs):iZ (bN hs)=true:=by
 show (decide (1<=(hs.map cD).length) && (decide ((hs.map cD).length<=6) && ((hs.map cD).all fV && (decide (((hs.map cD).map bD).map aB.name).Nodup && (decide (namesOf ((hs.map cD).map bD)).Nodup && decide ((namesOf ((hs.map cD).map bD)).length<=24))))))=true
 have h2:(hs.map cD).all fV=true:=List.all_eq_true.mpr fun d hd=>by
   obtain ⟨r,hr,rfl⟩:=List.mem_map.mp hd
   exact QG (g.all r hr)
 rw [iH,h2,List.length_map,decide_eq_true g.lo,decide_eq_true g.hi,decide_eq_true g.names,decide_eq_true g.rows,decide_eq_true g.few]
 rfl
theorem Mg {hs:List aB} {l:Letter} (g:m7 hs l):eZ (bO l)=true:=by
 obtain ⟨⟨s,t⟩,le,m⟩:=l
 have g1:=g.sent.yZ
 have g2:=g.taken.yZ
 have g3:=g.least
 cases m with
 | none=>simp [bO,eZ,pB,JT,qt,iM,intD,g1,g2,g3]
 | some m =>
   have g4:=g.most m rfl
   simp [bO,eZ,pB,JT,qt,iM,intD,g1,g2,g3,g4]
theorem QJ {ps:List (Str × Str)} {n x:Str} (nd:(ps.map Prod.fst).Nodup) (h:(n,x)∈ps):kW ps n=some x:=by
 unfold kW
 induction ps with
 | nil=>simp at h
 | cons p ps ih =>
   rw [List.map_cons,List.nodup_cons] at nd
   by_cases e:p.1=n
   . rw [List.find?_cons_of_pos (by simp [e])]
     rcases List.mem_cons.mp h with z | z
     . rw [<- z]; rfl
     . exact absurd (List.mem_map.mpr ⟨_,z,e.symm⟩) nd.1
   . rw [List.find?_cons_of_neg (by simp [e])]
     rcases List.mem_cons.mp h with z | z
     . rw [<- z] at e; exact absurd rfl e
     . exact ih nd.2 z
theorem owner {hs:List aB} (nd:(namesOf hs).Nodup) {h:aB} {n:Str} (hh:h∈hs) (hn:n∈bQ h):kW (pairsOf hs) n=some h.name:=by
 refine QJ (by rw [jC]; exact nd) ?_
 obtain ⟨r,hr,e⟩:=List.mem_map.mp hn
 exact List.mem_flatMap.mpr ⟨h,hh,List.mem_map.mpr ⟨r,hr,by rw [e]⟩⟩
theorem Hu {hs:List aB} {ls:List Letter} (gh:bA hs) (g:aU hs ls):j6 hs (bB ls)=true:=by
 show (decide ((ls.map bO).length<=24) && ((ls.map bO).all eZ && ((ls.map bO).all (oA hs) && sE ((ls.map bO).map keyOf))))=true
 have h2:(ls.map bO).all eZ=true:=List.all_eq_true.mpr fun d hd=>by
   obtain ⟨r,hr,rfl⟩:=List.mem_map.mp hd
   exact Mg (g.all r hr)
 have h3:(ls.map bO).all (oA hs)=true:=List.all_eq_true.mpr fun d hd=>by
   obtain ⟨l,hr,rfl⟩:=List.mem_map.mp hd
   obtain ⟨h1,m1,h2,m2,n1,n2,ne⟩:=(g.all l hr).gR
   unfold oA
   rw [show (keyOf (bO l)).1=l.1.1 from rfl,show (keyOf (bO l)).2=l.1.2 from rfl,owner gh.rows m1 n1,owner gh.rows m2 n2]
   show (!decide (h1.name=h2.name))=true
   rw [decide_eq_false ne]; rfl
 have h4:(ls.map bO).map keyOf=ls.map Prod.fst:=by rw [List.map_map]; rfl
 rw [h2,h3,h4,QC g.rise,List.length_map,decide_eq_true g.few]
 rfl
theorem ug {hs:List aB} {ls:List Letter} (gh:bA hs) (g:aU hs ls):jx (.tup [bN hs,bB ls])=true:=by
 show (iZ (bN hs) && j6 ((hs.map cD).map bD) (bB ls))=true
 rw [iH,Mf gh,Hu gh g]
 rfl
theorem bM.da {H:Hp} {v:V} {hs:List aB} {ls:List Letter} (h:bM H v hs ls) (gh:bA hs) (g:aU hs ls):bC H v (.tup [bN hs,bB ls]):=by
 obtain ⟨a,x,y,rfl,e,h1,h2⟩:=h
 exact .tup e (show 2<=25 by decide) (.cons (h1.da (by have:=gh.hi; omega) gh.all) (.cons (h2.da (by have:=g.few; omega) fun l hl=>⟨(g.all l hl).sent,(g.all l hl).taken⟩) .nil))
end iG
namespace iG
open PySem L2
structure TD (te:TE) (σ:St) (H:Hp) (d:Da):Prop where
 r:∀ H1,Same H H1->∀ Q:VK,(∀ v H2,Same H1 H2->bC H2 v d->Q v H2)->te σ H1 Q
theorem TD.use {te:TE} {σ:St} {H:Hp} {d:Da} (h:TD te σ H d) {H1:Hp} (s:Same H H1) {Q:VK} (q:∀ v H2,Same H1 H2->bC H2 v d->Q v H2):te σ H1 Q:=h.r H1 s Q q
structure TDs (ta:TA) (σ:St) (H:Hp) (ds:List Da):Prop where
 r:∀ H1,Same H H1->∀ Q:List V->Hp->Prop,(∀ vs H2,Same H1 H2->dg H2 vs ds->Q vs H2)->ta σ H1 Q
structure TPo (tl:TO) (σ:St) (H:Hp) (o:Option Int):Prop where
 r:∀ H1,Same H H1->∀ Q:Option Int->Hp->Prop,(∀ H2,Same H1 H2->Q o H2)->tl σ H1 Q
theorem dg.app {H:Hp}:∀ {vs ws:List V} {xs ys:List Da},dg H vs xs->dg H ws ys->dg H (vs++ws) (xs++ys)
 | _,_,_,_,.nil,q=>q
 | _,_,_,_,.cons h r,q=>.cons h (dg.app r q)
theorem dg.WQ {H:Hp}:∀ {vs:List V} {xs:List Da} (n:Nat),dg H vs xs->dg H (vs.take n) (xs.take n)
 | _,_,0,_=>by rw [List.take_zero,List.take_zero]; exact .nil
 | _,_,n+1,.nil=>.nil
 | _,_,n+1,.cons h r=>.cons h (dg.WQ n r)
theorem dg.WR {H:Hp}:∀ {vs:List V} {xs:List Da} (n:Nat),dg H vs xs->dg H (vs.drop n) (xs.drop n)
 | _,_,0,h=>by rw [List.drop_zero,List.drop_zero]; exact h
 | _,_,n+1,.nil=>.nil
 | _,_,n+1,.cons h r=>dg.WR n r
section
variable {σ:St} {H:Hp} {te ta tb:TE} {ts:TA} {d:Da} {ds xs ys:List Da} {i j:Int} {tl th:TO} {lo hi:Option Int} {K:PySem.W.Frag}
theorem Y7:TD (tC (.int i)) σ H (.int i):=⟨fun H1 _ _ q=>q _ H1 (Same.refl _) (.int i)⟩
theorem pC {k:Nat} {v:V} (e:σ[k]?=some (some v)) (h:bC H v d):TD (tV k) σ H d:=⟨fun H1 s Q q=>by
 unfold tV
 rw [e]
 exact q v H1 (Same.refl _) (h.same s)⟩
theorem abN {v:V} {r:St} (h:bC H v d):TD (tV 0) (some v :: r) H d:=pC rfl h
theorem abO {v:V} {r:St} {o0:Option V} (h:bC H v d):TD (tV 1) (o0 :: some v :: r) H d:=pC rfl h
theorem J0 {v:V} {r:St} {o0 o1:Option V} (h:bC H v d):TD (tV 2) (o0 :: o1 :: some v :: r) H d:=pC rfl h
theorem QK {v:V} {r:St} {o0 o1 o2:Option V} (h:bC H v d):TD (tV 3) (o0 :: o1 :: o2 :: some v :: r) H d:=pC rfl h
theorem WT {v:V} {r:St} {o0 o1 o2 o3 o4 o5:Option V} (h:bC H v d):TD (tV 6) (o0 :: o1 :: o2 :: o3 :: o4 :: o5 :: some v :: r) H d:=pC rfl h
theorem abP {v:V} {r:St} {o0 o1 o2 o3 o4 o5 o6:Option V} (h:bC H v d):TD (tV 7) (o0 :: o1 :: o2 :: o3 :: o4 :: o5 :: o6 :: some v :: r) H d:=pC rfl h
theorem abQ {v:V} {r:St} {o0 o1 o2 o3 o4 o5 o6 o7:Option V} (h:bC H v d):TD (tV 8) (o0 :: o1 :: o2 :: o3 :: o4 :: o5 :: o6 :: o7 :: some v :: r) H d:=pC rfl h
theorem abR {v:V} {r:St} {o0 o1 o2 o3 o4 o5 o6 o7 o8:Option V} (h:bC H v d):TD (tV 9) (o0 :: o1 :: o2 :: o3 :: o4 :: o5 :: o6 :: o7 :: o8 :: some v :: r) H d:=pC rfl h
theorem Y8 {v:V} {r:St} {o0 o1 o2 o3 o4 o5 o6 o7 o8 o9:Option V} (h:bC H v d):TD (tV 10) (o0 :: o1 :: o2 :: o3 :: o4 :: o5 :: o6 :: o7 :: o8 :: o9 :: some v :: r) H d:=pC rfl h
theorem Hv {v:V} {r:St} {o0 o1 o2 o3 o4 o5 o6 o7 o8 o9 qM:Option V} (h:bC H v d):TD (tV 11) (o0 :: o1 :: o2 :: o3 :: o4 :: o5 :: o6 :: o7 :: o8 :: o9 :: qM :: some v :: r) H d:=pC rfl h
theorem BP {v:V} {r:St} {o0 o1 o2 o3 o4 o5 o6 o7 o8 o9 qM qu:Option V} (h:bC H v d):TD (tV 12) (o0 :: o1 :: o2 :: o3 :: o4 :: o5 :: o6 :: o7 :: o8 :: o9 :: qM :: qu :: some v :: r) H d:=pC rfl h
theorem Y9 {v:V} {r:St} {o0 o1 o2 o3 o4 o5 o6 o7 o8 o9 qM qu tG:Option V} (h:bC H v d):TD (tV 13) (o0 :: o1 :: o2 :: o3 :: o4 :: o5 :: o6 :: o7 :: o8 :: o9 :: qM :: qu :: tG :: some v :: r) H d:=pC rfl h
theorem Za {v:V} {r:St} {o0 o1 o2 o3 o4 o5 o6 o7 o8 o9 qM qu tG za:Option V} (h:bC H v d):TD (tV 14) (o0 :: o1 :: o2 :: o3 :: o4 :: o5 :: o6 :: o7 :: o8 :: o9 :: qM :: qu :: tG :: za :: some v :: r) H d:=pC rfl h
theorem Zb {v:V} {r:St} {o0 o1 o2 o3 o4 o5 o6 o7 o8 o9 qM qu tG za xr:Option V} (h:bC H v d):TD (tV 15) (o0 :: o1 :: o2 :: o3 :: o4 :: o5 :: o6 :: o7 :: o8 :: o9 :: qM :: qu :: tG :: za :: xr :: some v :: r) H d:=pC rfl h
theorem kZ:TDs Gv σ H []:=⟨fun H1 _ _ q=>q [] H1 (Same.refl _) .nil⟩
theorem cV (h:TD te σ H d) (r:TDs ts σ H ds):TDs (oM te ts) σ H (d :: ds):=⟨fun H1 s Q q =>
 h.r H1 s _ fun v H2 s2 hv=>r.r H2 (s.trans s2) _ fun vs H3 s3 hvs=>q _ H3 (s2.trans s3) (.cons (hv.same s3) hvs)⟩
theorem pD (h:TDs ts σ H ds) (few:ds.length<=25):TD (Ax ts) σ H (.tup ds):=⟨fun H1 s Q q =>
 h.r H1 s _ fun vs H2 s2 hvs=>⟨by have mR:sizeLine=16777216:=sizeLine_eq; have:=hvs.len; omega,fun p hp=>q _ _ (s2.upd hp) (.tup ao (by rw [hvs.len]; exact few) (hvs.same ((Same.refl H2).upd hp)))⟩⟩
theorem QL (ha:TD ta σ H (.int i)) (hb:TD tb σ H (.int j)):TD (Jm (fI fun i j=>.int (i+j)) ta tb) σ H (.int (i+j)):=⟨fun H1 s Q q =>
 ha.r H1 s _ fun v H2 s2 hv=>by
   cases hv
   exact hb.r H2 (s.trans s2) _ fun v H3 s3 hv=>by cases hv; exact q _ H3 (s2.trans s3) (.int _)⟩
theorem BR {k:Nat} (ha:TD ta σ H (.int (k:Int))):TD (Jm (fI fun i j=>.int (i+j)) ta (tC (.int 1))) σ H (.int ((k+1:Nat):Int)):=QL ha Y7
theorem uh (ha:TD ta σ H (.tup xs)) (hb:TD tb σ H (.tup ys)) (few:xs.length+ys.length<=25):TD (Jm Qe ta tb) σ H (.tup (xs++ys)):=⟨fun H1 s Q q =>
 ha.r H1 s _ fun v H2 s2 hv=>hb.r H2 (s.trans s2) _ fun w H3 s3 hw=>by
   obtain ⟨a,vs,rfl,ea,la,ra⟩:=(hv.same s3).gk
   obtain ⟨b,ws,rfl,eb,lb,rb⟩:=hw.gk
   have mR:sizeLine=16777216:=sizeLine_eq
   have l1:=ra.len
   have l2:=rb.len
   exact ⟨a,b,vs,ws,rfl,rfl,ea,eb,by omega,fun p H4 hp s4=>q _ H4 ((s2.trans s3).trans s4) (.tup hp (by rw [List.length_append]; omega) ((ra.app rb).same s4))⟩⟩
theorem Ej:TPo mX σ H none:=⟨fun H1 _ _ q=>q H1 (Same.refl _)⟩
theorem zV (h:TD te σ H (.int i)):TPo (wC te) σ H (some i):=⟨fun H1 s Q q=>h.r H1 s _ fun v H2 s2 hv=>by cases hv; exact q H2 s2⟩
theorem WW (h:TD te σ H (.tup xs)) (hl:TPo tl σ H lo) (hh:TPo th σ H hi):TD (X8 SlA te tl th) σ H (.tup ((xs.drop (HT.fG xs.length 0 lo)).take (HT.fG xs.length xs.length hi-HT.fG xs.length 0 lo))):=⟨fun H1 s Q q =>
 h.r H1 s _ fun v H2 s2 hv=>hl.r H2 (s.trans s2) _ fun H3 s3=>hh.r H3 ((s.trans s2).trans s3) _ fun H4 s4=>by
   obtain ⟨a,vs,rfl,ea,la,ra⟩:=(hv.same (s3.trans s4)).gk
   refine ⟨a,vs,rfl,ea,fun p H5 hp s5=>q _ H5 (((s2.trans s3).trans s4).trans s5) (.tup hp (Nat.le_trans (oN _ _ _) la) ?_)⟩
   unfold jP
   rw [ra.len]
   exact ((ra.WR _).WQ _).same s5⟩
theorem QM {k:Nat} (h:TD te σ H (.tup xs)) (hh:TPo th σ H (some (k:Int))):TD (X8 SlA te mX th) σ H (.tup (xs.take k)):=by
 have z:=WW h Ej hh
 rw [HT.jz,HT.gZ,List.drop_zero,Nat.sub_zero] at z
 rw [show xs.take k=xs.take (min k xs.length) from by rw [List.take_eq_take_iff]; omega]
 exact z
theorem BW {k:Nat} (h:TD te σ H (.tup xs)) (hl:TPo tl σ H (some (k:Int))):TD (X8 SlA te tl mX) σ H (.tup (xs.drop k)):=by
 have z:=WW h hl Ej
 rw [HT.jz,HT.gZ] at z
 have e:(xs.drop (min k xs.length)).take (xs.length-min k xs.length)=xs.drop k:=by
   rw [List.take_of_length_le (by rw [List.length_drop]; omega)]
   by_cases hk:k<=xs.length
   . rw [Nat.min_eq_left hk]
   . rw [List.drop_of_length_le (by omega),List.drop_of_length_le (by omega)]
 rw [e] at z
 exact z
end
structure Kp (H H':Hp):Prop where
 tup:∀ b xs,H b=some (.tup xs)->H' b=some (.tup xs)
 lst:∀ b xs,H b=some (.lst xs)->∃ ys,H' b=some (.lst ys)
 Tg:∀ b ks,H b=some (.dK ks)->∃ k2,H' b=some (.dK k2)
theorem Kp.of {H H':Hp} (s:Same H H'):Kp H H':=⟨fun _ _ h=>s _ _ h,fun _ _ h=>⟨_,s _ _ h⟩,fun _ _ h=>⟨_,s _ _ h⟩⟩
theorem Kp.trans {H H1 H2:Hp} (a:Kp H H1) (b:Kp H1 H2):Kp H H2:=⟨fun _ _ h=>b.tup _ _ (a.tup _ _ h),fun _ _ h=>let ⟨_,z⟩:=a.lst _ _ h; b.lst _ _ z,fun _ _ h=>let ⟨_,z⟩:=a.Tg _ _ h; b.Tg _ _ z⟩
theorem Kp.put {H:Hp} {a:Addr} {xs ys:List V} (h:H a=some (.lst xs)):Kp H (upd H a (.lst ys)):=by
 refine ⟨fun b zs e=>?_,fun b zs e=>?_,fun b zs e=>?_⟩
 . rw [aL (fun z=>by rw [z,h] at e; cases e)]; exact e
 . by_cases z:b=a
   . subst z; exact ⟨ys,ao⟩
   . exact ⟨zs,by rw [aL z]; exact e⟩
 . exact ⟨zs,by rw [aL (fun z=>by rw [z,h] at e; cases e)]; exact e⟩
mutual
theorem bC.kp {H H':Hp} (s:Kp H H'):∀ {v:V} {d:Da},bC H v d->bC H' v d
 | _,_,.non=>.non
 | _,_,.bl b=>.bl b
 | _,_,.int i=>.int i
 | _,_,.str z h=>.str z h
 | _,_,.tup h l r=>.tup (s.tup _ _ h) l (dg.kp s r)
 | _,_,.lst h=>let ⟨_,z⟩:=s.lst _ _ h; .lst z
 | _,_,.Tg h=>let ⟨_,z⟩:=s.Tg _ _ h; .Tg z
theorem dg.kp {H H':Hp} (s:Kp H H'):∀ {v:List V} {d:List Da},dg H v d->dg H' v d
 | _,_,.nil=>.nil
 | _,_,.cons h r=>.cons (bC.kp s h) (dg.kp s r)
end
section
variable {σ:St} {H:Hp} {te:TE} {ts:TA} {ds ods:List Da} {K:PySem.W.Frag}
end
end iG
namespace iG
open PySem L2
section
variable {σ:St} {H:Hp} {te:TE} {ts:TA} {ds ods:List Da} {K:PySem.W.Frag} {D:Ends} {t u:TS}
theorem Ek {g:TG} (h:te σ H fun x H1=>g x σ H1 (u D)):oG (qD te g) u D σ H:=h
theorem zW {g:TG} (h:∀ U:St->Hp->Prop,U=u D->te σ H fun x H1=>g x σ H1 U):oG (qD te g) u D σ H:=h (u D) rfl
end
section
variable {n l h d r:Da}
end
theorem QS {hs:List aB} {h:aB} (g:bA hs) (m:h∈hs):h.runs.length<=24:=by
 have z:=g.few
 have gh:=g.all h m
 have key:∀ rs:List (List Row),(∀ r∈rs,r≠[])->rs.length<=rs.flatten.length:=by
   intro rs
   induction rs with
   | nil=>intro _; exact Nat.le_refl _
   | cons r rs ih =>
     intro hh
     have h1:=ih fun x hx=>hh x (List.mem_cons_of_mem _ hx)
     have h2:r.length≠0:=fun e=>hh r List.mem_cons_self (List.eq_nil_of_length_eq_zero e)
     rw [List.flatten_cons,List.length_append,List.length_cons]
     omega
 have k1:=key h.runs fun r hr=>(gh.runs r hr).ne
 have k2:(bQ h).length<=(namesOf hs).length:=by
   unfold namesOf
   obtain ⟨a,b,e⟩:=List.append_of_mem m
   rw [e,List.flatMap_append,List.flatMap_cons,List.length_append,List.length_append]
   omega
 unfold bQ jg at k2
 rw [List.length_map] at k2
 omega
end iG
namespace iG
open PySem L2
section
variable {g:BI->TG} {te:BI->TE} {σ0:St} {D:Addr} {End:Hp->Prop} {H1:Hp}
end
section
variable {P:Program} {w:World} {K:PySem.W.Frag} {mg:Str->Option Value} {base:Heap} {t8 t6 tR tL:Tok}
end
end iG
namespace iG
open PySem L2
section
variable {P:Program} {w:World} {K:PySem.W.Frag} {mg:Str->Option Value} {base:Heap} {t8 t6 tR tL:Tok}
end
end iG
namespace iG
open PySem L2
section
variable {hs:List aB} {s t l m:Da} {xs:List Da}
end
section
variable {P:Program} {w:World} {K:PySem.W.Frag} {mg:Str->Option Value} {base:Heap} {t8 t6 tR tL:Tok}
end
end iG
namespace iG
open PySem L2
section
variable {P:Program} {w:World} {K:PySem.W.Frag} {mg:Str->Option Value} {base:Heap} {t8 t6 tR tL:Tok}
end
end iG
namespace iG
open PySem L2
theorem sO {p:Addr} {H H':Hp} (h:cB H p) (h':cB H' p) (s:bG p H H'):Kp H H':=by
 obtain ⟨n,e,_⟩:=h
 obtain ⟨n',e',_⟩:=h'
 refine ⟨fun b xs z=>s b _ (fun w=>by rw [w,e] at z; cases z) z,fun b xs z=>?_,fun b ks z=>⟨_,s b _ (fun w=>by rw [w,e] at z; cases z) z⟩⟩
 by_cases w:b=p
 . subst w; exact ⟨_,e'⟩
 . exact ⟨_,s b _ w z⟩
theorem lY {α:Type} {H:Hp} {R:V->α->Prop} {f:α->Da}:∀ {vs:List V} {xs:List α},dg H vs (xs.map f)->(∀ v x,bC H v (f x)->R v x)->Paired R vs xs
 | [],[],.nil,_=>.nil
 | _ :: _,_ :: _,.cons h r,k=>.cons (k _ _ h) (lY r k)
section
variable {H:Hp} {v:V}
theorem dJ.off {r:Row} (h:bC H v (kY r)):dJ H v r:=by
 obtain ⟨a,vs,rfl,e,_,rr⟩:=h.gk
 obtain ⟨_,_,rfl,q1,q2⟩:=rr.two
 cases q1; cases q2; exact ⟨a,rfl,e⟩
theorem jf.off {r:List Row} (h:bC H v (jD r)):jf H v r:=by
 obtain ⟨a,vs,rfl,e,_,rr⟩:=h.gk
 exact ⟨a,vs,rfl,e,lY rr fun _ _=>dJ.off⟩
theorem lM.off {r:List (List Row)} (h:bC H v (xq r)):lM H v r:=by
 obtain ⟨a,vs,rfl,e,_,rr⟩:=h.gk
 exact ⟨a,vs,rfl,e,lY rr fun _ _=>jf.off⟩
theorem dI.off {h:aB} (d:bC H v (cD h)):dI H v h:=by
 obtain ⟨a,vs,rfl,e,_,rr⟩:=d.gk
 obtain ⟨_,_,_,_,b,rfl,q1,q2,q3,q4,q5⟩:=rr.five
 cases q1; cases q2; cases q3; cases q4; exact ⟨a,b,rfl,e,lM.off q5⟩
theorem fu.off {hs:List aB} (d:bC H v (bN hs)):fu H v hs:=by
 obtain ⟨a,vs,rfl,e,_,rr⟩:=d.gk
 exact ⟨a,vs,rfl,e,lY rr fun _ _=>dI.off⟩
theorem El {m:Option Int} (h:bC H v (pB m)):v=jM m:=by
 cases m <;> cases h <;> rfl
theorem dM.off {l:Letter} (d:bC H v (bO l)):dM H v l:=by
 obtain ⟨a,vs,rfl,e,_,rr⟩:=d.gk
 obtain ⟨_,_,_,b,rfl,q1,q2,q3,q4⟩:=rr.four
 cases q1; cases q2; cases q3; cases El q4; exact ⟨a,rfl,e⟩
theorem fB.off {ls:List Letter} (d:bC H v (bB ls)):fB H v ls:=by
 obtain ⟨a,vs,rfl,e,_,rr⟩:=d.gk
 exact ⟨a,vs,rfl,e,lY rr fun _ _=>dM.off⟩
end
section
variable {g:BI->TG} {te:BI->TE} {σ0:St} {D:Addr} {End:Hp->Prop} {H1:Hp}
theorem Mh {K:PySem.W.Frag} {a:Addr} {xs:List V} {ds:List Da} {f:Da->Da} (hD:H1 D=none) (ha:H1 a=some (.tup xs)) (hx:dg H1 xs ds) (few:ds.length<=1000)
   (turn:∀ (x:V) (d:Da) (H':Hp),d∈ds->bC H' x d->Same H1 H'->∀ b (R:VK),(∀ v fP,Same H' fP->bC fP v (f d)->R v fP)->g b x σ0 H' fun σ2 H2=>te b σ2 H2 R)
   (fin:∀ vs H',Same H1 H'->H' D=some (.lst vs)->dg H' vs (ds.map f)->End H') :
   ∃ W:Nat->Nat->Hp->Prop,(∃ m,W 0 m (upd H1 D (.lst [])))/\∀ b,oU (Td K a) (g b) (Bg) (qm D (te b)) σ0 End W :=
 rR (xs:=xs) (fun i H'=>∃ vs,H' D=some (.lst vs)/\Same H1 H'/\dg H' vs ((ds.take i).map f)) ⟨[],ao,(Same.refl H1).upd hD,.nil⟩ (fun i H' _ ⟨_,_,s,_⟩=>bU.of (s _ _ ha)) (fun H' ⟨vs,e,s,h⟩=>fin vs H' s e (by rw [hx.len,List.take_length] at h; exact h)) (fun i x H' hi hlt ⟨vs,e,s,h⟩ b=>by
   obtain ⟨d,hd,hxd⟩:=hx.get hi
   refine turn x d H' (List.mem_of_getElem? hd) (hxd.same s) s b _ fun v fP s2 hv=>⟨vs,s2 _ _ e,by have mR:sizeLine=16777216:=sizeLine_eq; have:=h.len; rw [List.length_map,List.length_take] at this; omega,nx hlt ?_⟩
   refine ⟨vs++[v],ao,fun c u z=>by rw [aL (aM z hD)]; exact (s.trans s2) c u z,?_⟩
   have z:(ds.take (i+1)).map f=(ds.take i).map f++[f d]:=by rw [List.take_add_one,hd,List.map_append]; rfl
   rw [z]
   exact ((h.same s2).app (.cons hv .nil)).kp (Kp.put (s2 _ _ e)))
end
def iy {α:Type} (l:List α) (k:Nat) (x:α):List α:=l.take k++[x]++l.drop (k+1)
theorem ni {α:Type} {l:List α} {k:Nat} {y:α} (h:l[k]?=some y):l=l.take k++[y]++l.drop (k+1):=by
 obtain ⟨li,fi⟩:=List.getElem?_eq_some_iff.mp h
 rw [List.append_assoc,List.singleton_append,<- fi,List.getElem_cons_drop,List.take_append_drop]
theorem sS {α:Type} {l:List α} {k:Nat} {x y:α} (h:l[k]?=some y):(iy l k x).length=l.length:=by
 conv=>rhs; rw [ni h]
 unfold iy
 simp
theorem sU {α β:Type} {f:α->β} {l:List α} {k:Nat} {x y:α} (h:l[k]?=some y) (e:f x=f y):(iy l k x).map f=l.map f:=by
 conv=>rhs; rw [ni h]
 unfold iy
 simp [e]
theorem Mi {α β:Type} {f:α->List β} {l:List α} {k:Nat} {x y:α} (h:l[k]?=some y) (e:f x=f y):(iy l k x).flatMap f=l.flatMap f:=by
 conv=>rhs; rw [ni h]
 unfold iy
 simp [e]
theorem lZ {α:Type} {l:List α} {k:Nat} {x z:α} (h:z∈iy l k x):z∈l∨z=x:=by
 unfold iy at h
 rw [List.mem_append,List.mem_append,List.mem_singleton] at h
 rcases h with (h | h) | h
 . exact .inl (List.mem_of_mem_take h)
 . exact .inr h
 . exact .inl (List.mem_of_mem_drop h)
theorem Mj {α:Type} {l:List α} {k:Nat} {x y z:α} (h:l[k]?=some y) (m:z∈l):z=y∨z∈iy l k x:=by
 rw [ni h,List.mem_append,List.mem_append,List.mem_singleton] at m
 unfold iy
 rw [List.mem_append,List.mem_append]
 rcases m with (m | m) | m
 . exact .inr (.inl (.inl m))
 . exact .inl m
 . exact .inr (.inr m)
theorem Uv {α:Type} {l:List α} {k:Nat} {x:α}:x∈iy l k x:=by
 unfold iy
 rw [List.mem_append,List.mem_append]
 exact .inl (.inr (List.mem_singleton.mpr rfl))
theorem QT {hs:List aB} {k:Nat} {h h':aB} (g:bA hs) (e:hs[k]?=some h) (n:h'.name=h.name) (m:bQ h'=bQ h) (gh:bL h'):bA (iy hs k h')/\namesOf (iy hs k h')=namesOf hs:=by
 have e1:namesOf (iy hs k h')=namesOf hs:=Mi e m
 exact ⟨⟨by rw [sS e]; exact g.lo,by rw [sS e]; exact g.hi,fun z hz=>(lZ hz).elim (g.all z) (fun w=>w ▸ gh),by rw [sU e n]; exact g.names,by rw [e1]; exact g.rows,by rw [e1]; exact g.few⟩,e1⟩
theorem Em {hs:List aB} {ls:List Letter} {k:Nat} {h h':aB} (g:aU hs ls) (e:hs[k]?=some h) (n:h'.name=h.name) (m:bQ h'=bQ h):aU (iy hs k h') ls:=by
 refine ⟨g.few,fun l hl=>?_,g.rise⟩
 obtain ⟨g1,g2,g3,g4,h1,m1,h2,m2,n1,n2,ne⟩:=g.all l hl
 have w:∀ z∈hs,∃ z'∈iy hs k h',bQ z'=bQ z/\z'.name=z.name:=fun z hz=>by
   rcases Mj (x:=h') e hz with q | q
   . subst q; exact ⟨h',Uv,m,n⟩
   . exact ⟨z,q,rfl,rfl⟩
 obtain ⟨z1,q1,a1,b1⟩:=w h1 m1
 obtain ⟨z2,q2,a2,b2⟩:=w h2 m2
 exact ⟨g1,g2,g3,g4,z1,q1,z2,q2,by rw [a1]; exact n1,by rw [a2]; exact n2,by rw [b1,b2]; exact ne⟩
theorem Hw {hs:List aB} {ls:List Letter} {k:Nat} {l l':Letter} (g:aU hs ls) (e:ls[k]?=some l) (n:l'.1=l.1) (h1:1<=l'.2.1) (h2:∀ m,l'.2.2=some m->l'.2.1<=m):aU hs (iy ls k l'):=by
 refine ⟨by rw [sS e]; exact g.few,fun z hz=>?_,by rw [sU e n]; exact g.rise⟩
 rcases lZ hz with q | q
 . exact g.all z q
 . subst q
   have gl:=g.all l (List.mem_of_getElem? e)
   refine ⟨by rw [n]; exact gl.sent,by rw [n]; exact gl.taken,h1,h2,?_⟩
   rw [n]
   exact gl.gR
theorem Ml {rs:List Row} (g:iY rs) (m:Int):iY (rs.map fun r=>(r.1,r.2+m)):=by
 refine ⟨fun z=>g.ne (List.map_eq_nil_iff.mp z),by rw [List.length_map]; exact g.few,fun r hr=>?_,?_⟩
 . obtain ⟨x,hx,rfl⟩:=List.mem_map.mp hr
   exact g.names x hx
 . have:=g.rise
   rw [List.pairwise_map] at this
   rw [List.map_map,List.pairwise_map]
   exact this.imp fun {a b} z=>by show a.2+m<b.2+m; omega
theorem Hy {h:aB} {k:Nat} {r r':List Row} (e:h.runs[k]?=some r) (n:r'.map Prod.fst=r.map Prod.fst):((iy h.runs k r').flatten).map Prod.fst=(h.runs.flatten).map Prod.fst:=by
 rw [List.map_flatten,List.map_flatten,sU e n]
theorem Zc {H:Hp} {d:Da} {v:V} {r:St} {o0 o1 o2 o3 o4 o5 o6 o7 o8 o9 qM qu tG za xr yR:Option V} (h:bC H v d):TD (tV 16) (o0 :: o1 :: o2 :: o3 :: o4 :: o5 :: o6 :: o7 :: o8 :: o9 :: qM :: qu :: tG :: za :: xr :: yR :: some v :: r) H d:=pC rfl h
theorem Zd {H:Hp} {d:Da} {v:V} {r:St} {o0 o1 o2 o3 o4 o5 o6 o7 o8 o9 qM qu tG za xr yR o16:Option V} (h:bC H v d):TD (tV 17) (o0 :: o1 :: o2 :: o3 :: o4 :: o5 :: o6 :: o7 :: o8 :: o9 :: qM :: qu :: tG :: za :: xr :: yR :: o16 :: some v :: r) H d:=pC rfl h
theorem Ze {H:Hp} {d:Da} {v:V} {r:St} {o0 o1 o2 o3 o4 o5 o6 o7 o8 o9 qM qu tG za xr yR o16 o17:Option V} (h:bC H v d):TD (tV 18) (o0 :: o1 :: o2 :: o3 :: o4 :: o5 :: o6 :: o7 :: o8 :: o9 :: qM :: qu :: tG :: za :: xr :: yR :: o16 :: o17 :: some v :: r) H d:=pC rfl h
section
variable {P:Program} {w:World} {K:PySem.W.Frag} {mg:Str->Option Value} {base:Heap} {t8 t6 tR tL:Tok}
end
end iG
namespace iG
open PySem L2
section
variable {g:BI->TG} {te:BI->TE} {σ0:St} {D:Addr} {End:Hp->Prop} {H1:Hp}
end
theorem HB {lo c:Int} {n:Nat} {g:TG} {tb:TS} {D:Ends} {σ:St} {H:Hp} (Pv:Nat->St->Hp->Prop) (h0:Pv 0 σ H)
   (hs:∀ i σ H,i<n->Pv i σ H->g (.int (lo+i * c)) σ H fun σ2 H2=>tb { D with nx:=Pv (i+1),ct:=Pv (i+1),bk:=D.nx } σ2 H2) (hd:∀ σ H,Pv n σ H->D.nx σ H) :
   ∃ W:Nat->Nat->St->Hp->Prop,(∃ m,W 0 m σ H)/\∀ i m σ H,W i m σ H ->
     ((PK lo c n).stop i H/\D.nx σ H)∨((PK lo c n).go i H/\∃ N:St->Hp->Prop,(∀ σ' H',N σ' H'->∃ m',m'<m/\W (i+1) m' σ' H')/\∀ x H',(PK lo c n).Oq i H x H'->g x σ H' fun σ2 H2=>tb { D with nx:=N,ct:=N,bk:=D.nx } σ2 H2):=by
 refine ⟨fun i m σ H=>m=n-i/\i<=n/\Pv i σ H,⟨n,rfl,Nat.zero_le _,h0⟩,fun i m σ H ⟨em,hi,p⟩=>?_⟩
 subst em
 rcases Nat.lt_or_ge i n with lt | ge
 . refine .inr ⟨lt,Pv (i+1),fun σ' H' p'=>⟨n-(i+1),by omega,rfl,lt,p'⟩,fun x H' ⟨e,y⟩=>?_⟩
   subst e y
   exact hs i σ _ lt p
 . have e:i=n:=by omega
   subst e
   exact .inl ⟨Nat.le_refl _,hd σ H p⟩
section
variable {P:Program} {w:World} {K:PySem.W.Frag} {mg:Str->Option Value} {base:Heap} {t8 t6 tR tL:Tok}
end
end iG
namespace Fw
section
variable {α:Type} [DecidableEq α]
end
end Fw
namespace nj
open PySem L2 iG
def top (i:Nat):Stmt:=PySem.Challenge.pw_skewbooks_k68_whole_parts_of_ledgers_as.main.body.getD i (.Pass ⟨0,0,0,0⟩)
abbrev um:Stmt:=top 5
abbrev xu:Stmt:=top 6
abbrev uo:Stmt:=top 11
abbrev nu:Stmt:=top 12
abbrev uq:Stmt:=top 13
abbrev qN:Stmt:=top 14
abbrev En:Stmt:=top 15
abbrev qO:Stmt:=top 16
abbrev nA:Stmt:=top 17
abbrev jl:Stmt:=top 18
abbrev pW:Stmt:=top 19
abbrev lg:Stmt:=top 20
abbrev pX:Stmt:=top 21
abbrev jc:Stmt:=top 22
abbrev pY:Stmt:=top 23
abbrev qP:Stmt:=top 25
abbrev j8:Stmt:=top 26
abbrev jT:Stmt:=top 27
abbrev iI:Stmt:=top 28
abbrev ur:Stmt:=top 29
abbrev uw:Stmt:=top 30
abbrev qQ:Stmt:=top 31
abbrev j9:Stmt:=top 32
abbrev jU:Stmt:=top 33
abbrev zX:Stmt:=top 34
abbrev jV:Stmt:=top 35
abbrev uy:Stmt:=top 37
abbrev zY:Stmt:=top 38
abbrev zZ:Stmt:=top 39
abbrev nC:Stmt:=top 40
abbrev mj:Stmt:=top 41
abbrev iz:Stmt:=top 42
abbrev jW:Stmt:=top 43
abbrev xG:Stmt:=top 44
abbrev xH:Stmt:=top 45
abbrev lu:Stmt:=top 46
abbrev uz:Stmt:=top 47
abbrev BX:Stmt:=top 48
structure Txt (mg:Str->Option Value) (t8 t6 tR tL:Tok):Prop where
 Uw:mg "isinstance" = none
 int:mg "int" = none
 bool:mg "bool" = none
 str:mg "str" = none
 tuple:mg "tuple" = none
 len:mg "len" = none
 all:mg "all" = none
 zip:mg "zip" = none
 set:mg "set" = none
 sorted:mg "sorted" = none
 divmod:mg "divmod" = none
 range:mg "range" = none
 max:mg "max" = none
 min:mg "min" = none
 abs:mg "abs" = none
 list:mg "list" = none
 enumerate:mg "enumerate" = none
 most:mg "LONGEST_NAME" = some (.int 8 t8)
 abS:mg "MOST_HOUSES" = some (.int 6 t6)
 abT:mg "MOST_ROWS" = some (.int 24 tR)
 abU:mg "MOST_LETTERS" = some (.int 24 tL)
section
variable {P:Program} {w:World} {K:PySem.W.Frag} {mg:Str->Option Value} {base:Heap} {t8 t6 tR tL:Tok}
theorem Ux:bx ["thing"] ["thing"] (aq um):=⟨rfl,rfl,rfl,by decide +kernel,rfl,by decide +kernel,by decide +kernel⟩
theorem QV {f:Addr} {fd:FuncData} (F:lH K "is_whole" "is_whole" um f fd) (T:Txt mg t8 t6 tR tL):aQ P w K mg base cC 1 f fd ["thing"] (rZ K):=by
 refine F.ok Ux (fun vs H Q E h=>?_) (fun cdv A outer s H vs Q E hr h=>?_)
 . obtain ⟨x,rfl,_⟩:=h
   rfl
 . obtain ⟨x,rfl,⟨⟨T',ty⟩,_⟩,q⟩:=h
   refine ⟨_,aF (aW (oV (aP iU rfl T.Uw PyProof.Rows.boot_isinstance (aj (pV 0) (aj (jO (v:=.ty "int") rfl T.int PyProof.Rows.boot_int rfl) ak)))
     (oJ (abz (aP iU rfl T.Uw PyProof.Rows.boot_isinstance (aj (pV 0) (aj (jO (v:=.ty "bool") rfl T.bool PyProof.Rows.boot_bool rfl) ak))))))),?_⟩
   obtain ⟨k1,k2,_,_⟩:=yU ty
   have e:=YW ty
   refine ⟨x,_,_,_,rfl,ty,k1,?_⟩
   cases q1:Bh T' "int" with
   | false =>
     rw [q1] at e
     rw [<- e] at q
     exact q
   | true =>
     rw [q1] at e
     refine ⟨x,_,_,_,rfl,ty,k2,?_⟩
     show Q (.bl (!Bh T' "bool")) H
     rw [<- e] at q
     simpa using q
theorem Zf:bx ["thing"] ["thing"] (aq xu):=⟨rfl,rfl,rfl,by decide +kernel,rfl,by decide +kernel,by decide +kernel⟩
theorem Uy {f:Addr} {fd:FuncData} (F:lH K "is_name" "is_name" xu f fd) (T:Txt mg t8 t6 tR tL):aQ P w K mg base cC 1 f fd ["thing"] (wM K):=by
 refine F.ok Zf (fun vs H Q E h=>?_) (fun cdv A outer s H vs Q E hr h=>?_)
 . obtain ⟨x,rfl,_⟩:=h
   rfl
 . obtain ⟨x,rfl,⟨⟨T',ty⟩,hz⟩,q⟩:=h
   refine ⟨_,au (dz (tX (dR (wz (aP iU rfl T.Uw PyProof.Rows.boot_isinstance (aj (pV 0) (aj (jO (v:=.ty "str") rfl T.str PyProof.Rows.boot_str rfl) ak)))))
       (pw_or1 (dR (abw oLe oLe aA (aP Bb rfl T.len PySem.boot_len (aj (pV 0) ak)) (vG (v:=.int 8) rfl T.most ⟨_,rfl⟩))))) (aF (aW iQ)) bH)
     (aF (aW (aP (j4 rfl) rfl T.all PyProof.Rows.boot_all (aj (cP (gW:=aq xu) (own:=["sign"]) (cap:=[]) (ix:=[]) rfl rfl ⟨rfl,by decide +kernel,by decide +kernel,by decide +kernel,rfl,by decide +kernel⟩
       (Yn (pV 0)) (fun b=>aC (i:=0) (show (["sign"]:List Str).Nodup by decide +kernel) rfl (Or.inl rfl)) (fun b=>bZ) (fun b=>ae7 abu abu bJ (pV 0) bJ)) ak)))),?_⟩
   obtain ⟨_,_,k3,_⟩:=yU ty
   refine ⟨x,_,_,_,rfl,ty,k3,?_⟩
   cases q1:Bh T' "str" with
   | false =>
     have e:yZ x=false:=by cases ty <;> first | rfl | exact absurd q1 (by decide)
     rw [e] at q
     exact q H (Same.refl H)
   | true =>
     obtain ⟨z,rfl⟩:∃ z,x=.str z:=by cases ty <;> first | exact ⟨_,rfl⟩ | exact absurd q1 (by decide)
     have hz':=hz z rfl
     refine ⟨z,rfl,hz',?_⟩
     refine iw (fun h1=>?_) (fun h1=>?_)
     . have h1':1<=z.length:=by have:=of_decide_eq_true h1; omega
       refine iw (fun h2=>?_) (fun h2=>?_)
       . have e:yZ (.str z)=false:=by
           have h2':¬ z.length<=8:=by
             intro h
             have:decide ((z.length:Int)<=8)=true:=decide_eq_true (by omega)
             rw [this] at h2; cases h2
           simp [yZ,h2']
         rw [e] at q
         exact q H (Same.refl H)
       . have h2':z.length<=8:=by
           have:¬ ¬ (z.length:Int)<=8:=fun h=>h2 (by rw [decide_eq_false h]; rfl)
           omega
         refine ⟨z,rfl,fun D hD=>Ph (fun i H'=>eE H H' D ((z.cps.toList.take i).map fun c=>V.bl (low c))) (eE.start hD) (fun H' G=>?_) (fun i c H' hc hi G b=>?_)⟩
         . refine ⟨D,z.cps.toList.map low,rfl,dw.of (by rw [G.at',take_all (by simp),List.map_map]; rfl),?_⟩
           have e:yZ (.str z)=(z.cps.toList.map low).all id:=by
             simp [yZ,h1',h2',List.all_map]
           rw [e] at q
           exact q H' G.same
         . have hl:=YX c
           have sz:z.cps.size<=sizeLine:=hz'
           have fin:∀ (k:Bool),k=low c->Nx z.cps.size i (fun i H'=>eE H H' D ((z.cps.toList.take i).map fun c=>V.bl (low c))) (upd H' D (.lst ((z.cps.toList.take i).map (fun c=>V.bl (low c))++[.bl k]))):=fun k hk=>by
             subst hk
             refine nx hi ?_
             show eE H _ D ((z.cps.toList.take (i+1)).map fun c=>V.bl (low c))
             rw [Pj (T6 hc)]
             exact G.put hD _
           refine iw (fun h3=>?_) (fun h3=>?_)
           . refine ⟨_,G.at',Du hi sz,fin _ ?_⟩
             have h3':decide (97<=c)=true:=hl.1.symm.trans h3
             show (!decide (("z" : Str).cps.toList<(⟨#[c]⟩:Str).cps.toList))=low c
             rw [hl.2]
             simp [low,of_decide_eq_true h3']
           . refine ⟨_,G.at',Du hi sz,fin _ ?_⟩
             have h3':¬ 97<=c:=fun h=>h3 (hl.1.trans (decide_eq_true h))
             simp [low,h3']
     . have e:yZ (.str z)=false:=by
         have h1':¬ 1<=z.length:=by
           intro h
           exact h1 (decide_eq_true (by omega))
         simp [yZ,h1']
       rw [e] at q
       exact q H (Same.refl H)
theorem QW:bx ["_law_cell"] ["_law_cell"] (aq uy):=⟨rfl,rfl,rfl,by decide +kernel,rfl,by decide +kernel,by decide +kernel⟩
theorem QX {f:Addr} {fd:FuncData} (F:lH K "_law_mixed" "_law_mixed" uy f fd):aQ P w K mg base cC 1 f fd ["_law_cell"] Bw:=by
 refine F.ok QW (fun vs H Q E h=>?_) (fun cdv A outer s H vs Q E hr h=>?_)
 . obtain ⟨c,rfl,_⟩:=h
   rfl
 . obtain ⟨c,rfl,hb,q⟩:=h
   refine ⟨_,(aF (aW (bK oMod (bK abK (pV 0) aA) (bK ae5 aA aA)))),?_⟩
   refine ⟨IntMulOk.of_le (m:=2000000) (n:=400) hb (by decide +kernel) (by decide),?_⟩
   refine ⟨⟨by decide,by decide,by decide⟩,by show (0:Int)<10 ^ Int.toNat 60; decide +kernel,?_⟩
   exact q _ (Int.emod_nonneg _ (by decide +kernel))
theorem UG:bx ["_law_script","_law_k"] ["_law_script","_law_k"] (aq zY):=⟨rfl,rfl,rfl,by decide +kernel,rfl,by decide +kernel,by decide +kernel⟩
theorem UJ {f BZ:Addr} {fd Eo:FuncData} (F:lH K "_law_pack" "_law_pack" zY f fd) (T:Txt mg t8 t6 tR tL)
   (J1:aQ P w K mg base cC 1 BZ Eo ["_law_cell"] Bw) (J2:mg "_law_mixed" = some (.ref BZ)) (J3:PySem.W.keepIn K (.ref BZ)=true) (J4:Binds K Eo ["_law_cell"] []):aQ P w K mg base cC 2 f fd ["_law_script","_law_k"] (Bx K):=by
 refine F.ok UG (fun vs H Q E h=>?_) (fun cdv A outer s H vs Q E hr h=>?_)
 . obtain ⟨a,ns,k,rfl,_⟩:=h
   rfl
 . obtain ⟨a,ns,k,rfl,ha,hb,hl,k0,k1,q⟩:=h
   have small:∀ z:Int,0<=z->z<=10000000->Builtin.Int.intBits z<=1048576:=fun z z0 z1=>Nat.le_trans (intBits_le_64 (by omega) (by omega)) (by decide)
   have fin:∀ n:Int,0<=n->X3 (oM (tC (.int n)) Gv) ([]:St) H Q:=fun n n0=>⟨by show 1<=sizeLine; rw [sizeLine_eq]; decide,fun p hp=>q p _ hp ⟨n,ao,n0⟩ ((Same.refl H).upd hp)⟩
   refine ⟨_,(au (dz (pN oLt (pV 1) (aP aY rfl T.len PySem.boot_len (aj (pV 0) ak)) (bw _)) (aF (aW (gq (aj (aD J1 hr rfl J2 J3 J4 .nil aR (aj (bK fZ (bR vK (pV 0) (pV 1) (fun _ _=>rfl)) (bK Yp aA (pV 1))) ak)) ak)))) bH) (aF (aW (gq (aj (aD J1 hr rfl J2 J3 J4 .nil aR (aj (bK fZ (bK Yp aA (pV 1)) aA) ak)) ak))))),?_⟩
   refine ⟨a,_,rfl,.inl ha,?_⟩
   refine iw (fun z=>?_) (fun z=>?_)
   . have lt:k<((ns.map V.int).length:Int):=of_decide_eq_true z
     obtain ⟨j,rfl⟩:=Int.eq_ofNat_of_zero_le k0
     rw [List.length_map] at lt
     have hj:ns[j]?=some ns[j]:=List.getElem?_eq_getElem (by omega)
     refine abA ha (v:=.int ns[j]) (iR (by rw [List.getElem?_map,hj]; rfl)) ?_
     refine ⟨.inl ⟨by decide,by decide⟩,?_⟩
     have b1:=intBits_add_le (hb ns[j] (List.mem_of_getElem? hj)) (small (23 * (j:Int)) (by omega) (by omega))
     refine ⟨_,rfl,Nat.le_trans b1 (by decide),fun n n0=>?_⟩
     exact fin n n0
   . refine ⟨.inl ⟨by decide,by decide⟩,?_⟩
     refine ⟨_,rfl,Nat.le_trans (small (5099 * k+7) (by omega) (by omega)) (by decide),fun n n0=>?_⟩
     exact fin n n0
theorem J5:bx ["_law_pack_here","_law_size","_law_digit"] ["_law_pack_here","_law_size"] (aq zZ):=⟨rfl,rfl,rfl,by decide +kernel,rfl,by decide +kernel,by decide +kernel⟩
theorem UL {f:Addr} {fd:FuncData} (F:lH K "_law_take" "_law_take" zZ f fd) (T:Txt mg t8 t6 tR tL):aQ P w K mg base cC 1 f fd ["_law_pack_here","_law_size"] pA:=by
 refine F.ok J5 (fun vs H Q E h=>?_) (fun cdv A outer s H vs Q E hr h=>?_)
 . obtain ⟨p,m,rfl,_⟩:=h
   rfl
 . obtain ⟨p,m,rfl,⟨n,hp,n0⟩,m0,m1,q⟩:=h
   refine ⟨_,(au (jZ (aP Di rfl T.divmod PyProof.Rows.boot_divmod (aj (bR vK (pV 0) aA (fun _ _=>rfl)) (aj (pV 1) ak))) (dU rfl (aH (Xx (pV 0) aA afb) (aH (aC (i:=2) J5.nd rfl (Or.inl rfl)) cN)))) (aF (aW (pV 2)))),?_⟩
   refine j5 hp (i:=0) (by rfl) ?_
   refine ⟨n,m,rfl,⟨m0,m1⟩,fun t ht=>?_⟩
   have ne:p≠t:=aM hp ht
   refine ⟨t,_,rfl,bU.of ao,rfl,_,_,rfl,?_⟩
   refine setAt (j:=0) (show upd H t (.tup [.int (n / m),.int (n % m)]) p=some (.lst [.int n]) by rw [aL ne]; exact hp) (by rfl) ?_
   refine ⟨_,_,rfl,rfl,?_⟩
   refine q _ _ (Int.emod_nonneg n (by omega)) (Int.emod_lt_of_pos n m0) ⟨n / m,ao,Int.ediv_nonneg n0 (by omega)⟩ ?_
   exact ((bG.of (Same.refl H)).new ht).upd
theorem mq:bx ["_law_pack_here","_law_amount","_law_letters_here","_law_turn","_law_pick","_law_size"] ["_law_pack_here","_law_amount"] (aq nC):=⟨rfl,rfl,rfl,by decide +kernel,rfl,by decide +kernel,by decide +kernel⟩
theorem QZ {f dX:Addr} {fd eN:FuncData} (F:lH K "_law_names" "_law_names" nC f fd) (T:Txt mg t8 t6 tR tL)
   (cI:aQ P w K mg base cC 1 dX eN ["_law_pack_here","_law_size"] pA) (cJ:mg "_law_take" = some (.ref dX)) (cL:PySem.W.keepIn K (.ref dX)=true) (cM:Binds K eN ["_law_pack_here","_law_size"] []):aQ P w K mg base cC 2 f fd ["_law_pack_here","_law_amount"] BL:=by
 refine F.ok mq (fun vs H Q E h=>?_) (fun cdv A outer s H vs Q E hr h=>?_)
 . obtain ⟨p,rfl,_⟩:=h
   rfl
 . obtain ⟨p,rfl,hp,q⟩:=h
   have mR:sizeLine=16777216:=sizeLine_eq
   refine ⟨_,(au (aX (i:=2) mq.nd rfl (Or.inr rfl) bJ) (au (aX (i:=3) mq.nd rfl (Or.inl rfl) (aD cI hr rfl cJ cL cM .nil aR (aj (pV 0) (aj aA ak)))) (au (aX (i:=2) mq.nd rfl (Or.inr rfl) (bK Dt (cO T7 (pV 2) (yQ (pV 3)) eY) (cO T7 (pV 2) eY (yQ (pV 3))))) (au (aX (i:=4) mq.nd rfl (Or.inl rfl) (aD cI hr rfl cJ cL cM .nil aR (aj (pV 0) (aj aA ak)))) (au (aX (i:=5) mq.nd rfl (Or.inr rfl) (aD cI hr rfl cJ cL cM .nil aR (aj (pV 0) (aj aA ak)))) (au (dz (pN oEq (pV 4) aA (bw _)) (aF (aW (cP (gW:=aq nC) (own:=["_law_k"]) (cap:=["_law_letters_here"]) (ix:=[2]) rfl rfl ⟨rfl,by decide +kernel,by decide +kernel,by decide +kernel,rfl,by decide +kernel⟩ (iC rfl T.range (aj (pV 1) ak)) (fun b=>(aC (i:=0) (show (["_law_k","_law_letters_here"]:List Str).Nodup by decide +kernel) rfl (Or.inl rfl))) (fun b=>bZ) (fun b=>(bK Ub (bR Ys (pV 1) (bK oDiv (pV 0) aA) (fun _ _=>rfl)) (bK fZ aA (bK oMod (pV 0) aA))))))) bH) (au (dz (pN oEq (pV 4) aA (bw _)) (aF (aW (cP (gW:=aq nC) (own:=["_law_k"]) (cap:=["_law_letters_here","_law_size"]) (ix:=[2,5]) rfl rfl ⟨rfl,by decide +kernel,by decide +kernel,by decide +kernel,rfl,by decide +kernel⟩ (iC rfl T.range (aj (pV 1) ak)) (fun b=>(aC (i:=0) (show (["_law_k","_law_letters_here","_law_size"]:List Str).Nodup by decide +kernel) rfl (Or.inl rfl))) (fun b=>bZ) (fun b=>(bK Dt (bR Ys (pV 1) (bK oMod (pV 0) aA) (fun _ _=>rfl)) (cO T7 (pV 1) (yQ aA) (yQ (bK fZ aA (pV 2))))))))) bH) (aF (aW (cP (gW:=aq nC) (own:=["_law_k"]) (cap:=["_law_letters_here","_law_size"]) (ix:=[2,5]) rfl rfl ⟨rfl,by decide +kernel,by decide +kernel,by decide +kernel,rfl,by decide +kernel⟩ (iC rfl T.range (aj (pV 1) ak)) (fun b=>(aC (i:=0) (show (["_law_k","_law_letters_here","_law_size"]:List Str).Nodup by decide +kernel) rfl (Or.inl rfl))) (fun b=>bZ) (fun b=>(bK Dt (cO T7 (pV 1) (yQ aA) (yQ (bK fZ aA (pV 2)))) (bR Ys (pV 1) (bK oMod (pV 0) aA) (fun _ _=>rfl)))))))))))))),?_⟩
   refine ⟨p,26,rfl,hp,by decide,by decide,fun t H1 t0 t1 hp1 s1=>?_⟩
   obtain ⟨t,rfl⟩:=Int.eq_ofNat_of_zero_le t0
   have ht:t<26:=by omega
   have la:abc.length<=sizeLine:=by rw [BK]; omega
   refine JD (z:=abc) la ?_
   refine JD (z:=abc) la ?_
   have rt:=Qt (t:=t) (by omega)
   refine ⟨by
     have z1:=PySem.Txt.slice_le abc (some (t:Int)) none
     have z2:=PySem.Txt.slice_le abc none (some (t:Int))
     rw [BK] at z1 z2
     omega,?_⟩
   generalize PySem.Txt.slice abc (some (t:Int)) none++PySem.Txt.slice abc none (some (t:Int))=R at rt
   have lR:R.length=26:=by rw [<- len_list,rt]; exact vR (by omega)
   refine ⟨p,3,rfl,hp1,by decide,by decide,fun pk H2 p0 p1 hp2 s2=>?_⟩
   obtain ⟨pick,rfl⟩:=Int.eq_ofNat_of_zero_le p0
   refine ⟨p,8,rfl,hp2,by decide,by decide,fun sz H3 z0 z1 hp3 s3=>?_⟩
   obtain ⟨size,rfl⟩:=Int.eq_ofNat_of_zero_le z0
   have s13:bG p H H3:=(s1.trans s2).trans s3
   obtain ⟨ok1,ok2⟩:=LQ (t:=t) (sz:=size) (pick:=pick) ht (by omega) (by omega)
   have ok3:=Qs (t:=t) (sz:=size) (pick:=pick) ht (by omega) (by omega)
   have fin:∀ (D:Addr) (H':Hp),H3 D=none->eE H3 H' D ((eX t size pick).map V.str)->Q (.ref D) H':=fun D H' hD G=>by
     refine q D (eX t size pick) H' ?_ G.at' (by unfold eX; rw [List.length_map,List.length_range]) ok1 ok2 ok3 (by obtain ⟨n,e,n0⟩:=hp3; exact ⟨n,G.same _ _ e,n0⟩) (s13.trans (bG.of G.same))
     cases e:H D with
     | none=>rfl
     | some o =>
       have nD:D≠p:=fun z=>by
         obtain ⟨n,e',_⟩:=hp3
         rw [<- z,hD] at e'; cases e'
       have:=s13 D o nD e
       rw [hD] at this; cases this
   have step:∀ (i:Nat),i<12->(eX t size pick).take (i+1)=(eX t size pick).take i++[nameS t size pick i]:=fun i hi=>by
     have e:(eX t size pick)[i]?=some (nameS t size pick i):=by unfold eX; rw [List.getElem?_map,List.getElem?_range hi]; rfl
     rw [List.take_add_one,e]; rfl
   have aon:(eX t size pick).length=12:=by unfold eX; rw [List.length_map,List.length_range]
   have put:∀ (i:Nat) (D:Addr) (H':Hp) (z:Str),i<12->H3 D=none->eE H3 H' D (((eX t size pick).take i).map V.str)->z.cps.toList=sJ t size pick i->∃ zs,H' D=some (.lst zs)/\zs.length<sizeLine/\Nx 12 i (fun i H'=>eE H3 H' D (((eX t size pick).take i).map V.str)) (upd H' D (.lst (zs++[.str z]))):=fun i D H' z hi hD G ez=>by
     refine ⟨_,G.at',by rw [List.length_map,List.length_take]; omega,nx hi ?_⟩
     show eE H3 _ D (((eX t size pick).take (i+1)).map V.str)
     have ez':z=nameS t size pick i:=by
       cases z with
       | mk c=>unfold nameS; congr 1; rw [<- ez]
     rw [step i hi,List.map_append,ez']
     exact G.put hD _
   have all:((eX t size pick).take 12).map V.str=(eX t size pick).map V.str:=by rw [List.take_of_length_le (by omega)]
   have abV:(PySem.Txt.slice R (some 4) (some (4+(size:Int)))).cps.toList=((Qq t).drop 4).take size:=by
     have e:PySem.Txt.slice R (some ((4:Nat):Int)) (some ((4+size:Nat):Int))=_:=Lh R 4 (4+size)
     have e2:PySem.Txt.slice R (some 4) (some (4+(size:Int)))=⟨((R.cps.toList.take (4+size)).drop 4).toArray⟩:=e
     rw [e2,rt,List.drop_take]
     simp
   have aop:(PySem.Txt.slice R (some 4) (some (4+(size:Int)))).length<=26:=by rw [<- lR]; exact PySem.Txt.slice_le R _ _
   refine iw (fun c1=>?_) (fun c1=>?_)
   . have pk0:pick=0:=by have:=of_decide_eq_true c1; omega
     refine ⟨12,rfl,by decide,by decide,fun D hD=>qI (lo:=0) (n:=12) (fun i H'=>eE H3 H' D (((eX t size pick).take i).map V.str)) (eE.start hD) (fun H' G=>fin D H' hD (by rw [<- all]; exact G)) (fun i H' hi G b=>?_)⟩
     refine ⟨⟨by decide,by decide⟩,?_⟩
     refine Pk (z:=R) (by omega) (by rw [rt]; exact wU (by omega) (by rw [vR (by omega)]; omega)) ?_
     refine ⟨by show (0:Int)<8; decide,?_⟩
     refine ⟨_,_,rfl,rfl,by omega,by omega,?_⟩
     refine put i D H' _ hi hD G ?_
     subst pk0
     unfold sJ
     rw [if_pos rfl]
     show List.replicate _ _=_
     congr 1
     . omega
     . congr 1; omega
   . refine iw (fun c2=>?_) (fun c2=>?_)
     . have pk1:pick=1:=by have:=of_decide_eq_true c2; omega
       refine ⟨12,rfl,by decide,by decide,fun D hD=>qI (lo:=0) (n:=12) (fun i H'=>eE H3 H' D (((eX t size pick).take i).map V.str)) (eE.start hD) (fun H' G=>fin D H' hD (by rw [<- all]; exact G)) (fun i H' hi G b=>?_)⟩
       refine ⟨by show (0:Int)<26; decide,?_⟩
       refine Pk (z:=R) (by omega) (by rw [rt]; exact wU (by omega) (by rw [vR (by omega)]; omega)) ?_
       refine JD (z:=R) (by omega) ?_
       refine ⟨by show 1+_<=sizeLine; omega,?_⟩
       refine put i D H' _ hi hD G ?_
       subst pk1
       rw [app_list,abV]
       unfold sJ
       rw [if_neg (by decide),if_pos rfl]
       have ei:((0+(i:Int)) % 26).toNat=i % 26:=by omega
       show (Qq t).getD ((0+(i:Int)) % 26).toNat 0 :: _=_
       rw [ei]
       rfl
     . have pk2:pick≠0/\pick≠1:=⟨fun e=>c1 (decide_eq_true (by rw [e]; rfl)),fun e=>c2 (decide_eq_true (by rw [e]; rfl))⟩
       refine ⟨12,rfl,by decide,by decide,fun D hD=>qI (lo:=0) (n:=12) (fun i H'=>eE H3 H' D (((eX t size pick).take i).map V.str)) (eE.start hD) (fun H' G=>fin D H' hD (by rw [<- all]; exact G)) (fun i H' hi G b=>?_)⟩
       refine JD (z:=R) (by omega) ?_
       refine ⟨by show (0:Int)<26; decide,?_⟩
       refine Pk (z:=R) (by omega) (by rw [rt]; exact wU (by omega) (by rw [vR (by omega)]; omega)) ?_
       refine ⟨by show _+1<=sizeLine; omega,?_⟩
       refine put i D H' _ hi hD G ?_
       rw [app_list,abV]
       unfold sJ
       rw [if_neg pk2.1,if_neg pk2.2]
       congr 1
       show [_]=[_]
       congr 2; omega
theorem Q0:bx ["thing","many"] ["thing","many"] (aq uo):=⟨rfl,rfl,rfl,by decide +kernel,rfl,by decide +kernel,by decide +kernel⟩
theorem Q5 {f:Addr} {fd:FuncData} (F:lH K "has_parts" "has_parts" uo f fd) (T:Txt mg t8 t6 tR tL):aQ P w K mg base cC 1 f fd ["thing","many"] pU:=by
 refine F.ok Q0 (fun vs H Q E h=>?_) (fun cdv A outer s H vs Q E hr h=>?_)
 . obtain ⟨x,d,n,rfl,_⟩:=h
   rfl
 . obtain ⟨x,d,n,rfl,hd,q⟩:=h
   obtain ⟨_,⟨T',ty,kt⟩,_⟩:=hd.kind (K:=K)
   refine ⟨_,(aF (aW (oV (aP iU rfl T.Uw PyProof.Rows.boot_isinstance (aj (pV 0) (aj (jO (v:=.ty "tuple") rfl T.tuple PyProof.Rows.boot_tuple rfl) ak))) (oJ (gY oEq (aP aY rfl T.len PySem.boot_len (aj (pV 0) ak)) (pV 1) (bw _)))))),?_⟩
   refine ⟨_,_,_,_,rfl,ty,kt,?_⟩
   cases d with
   | tup xs =>
     refine aO fun dO aJ=>?_
     obtain ⟨a,vs,ez1,ha,Y4,r⟩:=hd.gk
     subst aJ
     subst ez1
     refine ⟨a,vs,rfl,.inr (bU.of ha),?_⟩
     show Q (.bl (decide ((vs.length:Int)=(n:Int)))) H
     have e:decide ((vs.length:Int)=(n:Int))=decide (xs.length=n):=by
       rw [r.len,Bool.eq_iff_iff,decide_eq_true_iff,decide_eq_true_iff]; omega
     rw [e]; exact q
   | _=>exact q
theorem Mp:bx ["values"] ["values"] (aq nu):=⟨rfl,rfl,rfl,by decide +kernel,rfl,by decide +kernel,by decide +kernel⟩
theorem Mq {f:Addr} {fd:FuncData} (F:lH K "is_rising" "is_rising" nu f fd) (T:Txt mg t8 t6 tR tL):aQ P w K mg base cC 1 f fd ["values"] sG:=by
 refine F.ok Mp (fun vs H Q E h=>?_) (fun cdv A outer s H vs Q E hr h=>?_)
 . obtain ⟨a,xs,b,rfl,_⟩:=h
   rfl
 . obtain ⟨a,xs,bb,rfl,ha,few,rise,q⟩:=h
   have mR:sizeLine=16777216:=sizeLine_eq
   refine ⟨_,(aF (aW (aP (j4 rfl) rfl T.all PyProof.Rows.boot_all (aj (cP (gW:=aq nu) (own:=["value","later"]) (cap:=[]) (ix:=[]) rfl rfl ⟨rfl,by decide +kernel,by decide +kernel,by decide +kernel,rfl,by decide +kernel⟩ (Yz rfl T.zip (aj (pV 0) (aj (cO mY (pV 0) (yQ aA) eY) ak))) (fun b=>(dU rfl (aH (aC (i:=0) (show (["value","later"]:List Str).Nodup by decide +kernel) rfl (Or.inl rfl)) (aH (aC (i:=1) (show (["value","later"]:List Str).Nodup by decide +kernel) rfl (Or.inl rfl)) cN)))) (fun b=>bZ) (fun b=>(gY (afm hr.Gu) (pV 0) (pV 1) (bw _)))) ak)))),?_⟩
   refine ⟨a,xs,rfl,dw.of ha,fun p hp=>?_⟩
   have e1:jP xs (some 1) none=xs.drop 1:=by
     unfold jP
     rw [HT.jz,show (some 1:Option Int)=some ((1:Nat):Int) from rfl,HT.gZ]
     rcases Nat.lt_or_ge 0 xs.length with z | z
     . rw [Nat.min_eq_left z,List.take_of_length_le (by rw [List.length_drop]; omega)]
     . have:xs=[]:=List.eq_nil_of_length_eq_zero (by omega)
       subst this; rfl
   rw [e1]
   have s1:Same H (upd H p (.lst (xs.drop 1))):=(Same.refl H).upd hp
   refine aO fun dO aJ=>?_
   obtain ⟨bs,lb,eb,ask⟩:=rise.bools
   subst aJ
   refine ⟨a,p,xs,xs.drop 1,rfl,dw.of (s1 _ _ ha),dw.of ao,fun D hD=>?_⟩
   have lp:(xs.drop 1).length=xs.length-1:=List.length_drop
   refine rQ (xs.drop 1).length (fun i H'=>eE (upd H p (.lst (xs.drop 1))) H' D ((bs.take i).map V.bl)) (eE.start hD) (fun H' G=>⟨⟨dw.of (G.same _ _ (s1 _ _ ha)),dw.of (G.same _ _ ao),.inr (Nat.le_refl _)⟩,?_⟩) (fun i H' hi G=>⟨⟨dw.of (G.same _ _ (s1 _ _ ha)),dw.of (G.same _ _ ao),by omega,hi⟩,fun x H2 y b=>?_⟩)
   . refine ⟨D,bs,rfl,dw.of (by have e:=G.at'; rw [List.take_of_length_le (by omega)] at e; exact e),?_⟩
     rw [eb]
     exact q H' (s1.trans G.same)
   . refine aO fun dO aJ=>?_
     obtain ⟨t,u,v,ht,ez2,hu',hv,ez3⟩:=y
     subst aJ
     subst ez2
     subst ez3
     have s2:Same H' (upd H' t (.tup [u,v])):=(Same.refl H').upd ht
     have G2:=G.more s2
     refine ⟨t,[u,v],rfl,bU.of ao,rfl,u,[v],rfl,v,[],rfl,rfl,?_⟩
     refine ask hu' (by rw [List.getElem?_drop,Nat.add_comm] at hv; exact hv) (s1.trans G2.same) fun c hc=>?_
     refine ⟨_,G2.at',by rw [List.length_map,List.length_take]; omega,nx hi ?_⟩
     show eE _ _ D ((bs.take (i+1)).map V.bl)
     rw [List.take_add_one,hc,List.map_append]
     exact G2.put hD _
theorem Q6:bx ["thing"] ["thing"] (aq uq):=⟨rfl,rfl,rfl,by decide +kernel,rfl,by decide +kernel,by decide +kernel⟩
theorem Q7 {f fH kj jd:Addr} {fd gF lA jE:FuncData} (F:lH K "is_named_number" "is_named_number" uq f fd)
   (nG:aQ P w K mg base cC 1 fH gF ["thing","many"] pU) (nH:mg "has_parts" = some (.ref fH)) (nJ:PySem.W.keepIn K (.ref fH)=true) (nM:Binds K gF ["thing","many"] [])
   (uD:aQ P w K mg base cC 1 kj lA ["thing"] (wM K)) (uE:mg "is_name" = some (.ref kj)) (uF:PySem.W.keepIn K (.ref kj)=true) (uG:Binds K lA ["thing"] [])
   (pZ:aQ P w K mg base cC 1 jd jE ["thing"] (rZ K)) (p7:mg "is_whole" = some (.ref jd)) (k_whole:PySem.W.keepIn K (.ref jd)=true) (qb:Binds K jE ["thing"] []):aQ P w K mg base cC 2 f fd ["thing"] (zP gD):=by
 refine F.ok Q6 (fun vs H Q E h=>?_) (fun cdv A outer s H vs Q E hr h=>?_)
 . obtain ⟨x,d,rfl,_⟩:=h
   rfl
 . obtain ⟨x,d,rfl,hd,q⟩:=h
   refine ⟨_,(aF (aW (oV (aD nG hr rfl nH nJ nM .nil aR (aj (pV 0) (aj aA ak))) (oV (aD uD hr rfl uE uF uG .nil aR (aj (bR iV (pV 0) aA (fun _ _=>rfl)) ak)) (oJ (aD pZ hr rfl p7 k_whole qb .nil aR (aj (bR iV (pV 0) aA (fun _ _=>rfl)) ak))))))),?_⟩
   refine ⟨x,d,2,rfl,hd,?_⟩
   have no:∀ d',m8 d' 2=false->gD d'=false:=fun d' h=>by
     cases d' with
     | tup xs =>
       match xs,h with
       | [],_=>rfl
       | [_],_=>rfl
       | [_,_],h=>cases h
       | _ :: _ :: _ :: _,_=>rfl
     | _=>rfl
   cases e:m8 d 2 with
   | false =>
     have z:=q H (Same.refl H)
     rw [no d e] at z
     exact z
   | true =>
     cases d with
     | tup xs =>
       refine aO fun dO aJ=>?_
       obtain ⟨a,vs,ez4,ha,Y4,r⟩:=hd.gk
       subst aJ
       subst ez4
       obtain ⟨y,z,rfl⟩:=len2 (of_decide_eq_true e)
       refine aO fun dO aJ=>?_
       obtain ⟨v1,v2,ez5,h1,h2⟩:=r.two
       subst aJ
       subst ez5
       refine eG (bU.of ha) (i:=0) (v:=v1) (by rfl) ?_
       refine aO fun dO aJ=>?_
       obtain ⟨th,_,_,n1⟩:=h1.kind (K:=K)
       subst aJ
       refine ⟨v1,rfl,th,fun H1 s1=>?_⟩
       rw [n1]
       cases e2:qt y with
       | false =>
         have w:=q H1 s1
         simp only [gD,e2,Bool.false_and] at w
         exact w
       | true =>
         refine eG (bU.of (s1 _ _ ha)) (i:=1) (v:=v2) (by rfl) ?_
         refine aO fun dO aJ=>?_
         obtain ⟨th2,_,w2,_⟩:=(h2.same s1).kind (K:=K)
         subst aJ
         refine ⟨v2,rfl,th2,?_⟩
         rw [w2]
         have w:=q H1 s1
         simp only [gD,e2,Bool.true_and] at w
         exact w
     | _=>cases e
theorem Q8:bx ["name","low","high","drift"] ["name","low","high","drift"] (aq qN):=⟨rfl,rfl,rfl,by decide +kernel,rfl,by decide +kernel,by decide +kernel⟩
theorem Q9 {f kj jd:Addr} {fd lA jE:FuncData} (F:lH K "is_clock" "is_clock" qN f fd) (T:Txt mg t8 t6 tR tL)
   (uD:aQ P w K mg base cC 1 kj lA ["thing"] (wM K)) (uE:mg "is_name" = some (.ref kj)) (uF:PySem.W.keepIn K (.ref kj)=true) (uG:Binds K lA ["thing"] [])
   (pZ:aQ P w K mg base cC 1 jd jE ["thing"] (rZ K)) (p7:mg "is_whole" = some (.ref jd)) (k_whole:PySem.W.keepIn K (.ref jd)=true) (qb:Binds K jE ["thing"] []):aQ P w K mg base cC 2 f fd ["name","low","high","drift"] Bu:=by
 refine F.ok Q8 (fun vs H Q E h=>?_) (fun cdv A outer s H vs Q E hr h=>?_)
 . obtain ⟨x0,x1,x2,x3,d0,d1,d2,d3,rfl,_⟩:=h
   rfl
 . obtain ⟨x0,x1,x2,x3,d0,d1,d2,d3,rfl,h0,h1,h2,h3,q⟩:=h
   have mR:sizeLine=16777216:=sizeLine_eq
   obtain ⟨th0,_,_,n0⟩:=h0.kind (K:=K)
   refine ⟨_,(au (dz (tX (dR (wz (aD uD hr rfl uE uF uG .nil aR (aj (pV 0) ak)))) (pw_or1 (dR (wz (aP (j4 rfl) rfl T.all PyProof.Rows.boot_all (aj (cP (gW:=aq qN) (own:=["number"]) (cap:=[]) (ix:=[]) rfl rfl ⟨rfl,by decide +kernel,by decide +kernel,by decide +kernel,rfl,by decide +kernel⟩ (cY (dD (aj (pV 1) (aj (pV 2) (aj (pV 3) ak))))) (fun b=>(aC (i:=0) (show (["number"]:List Str).Nodup by decide +kernel) rfl (Or.inl rfl))) (fun b=>bZ) (fun b=>(aD pZ hr rfl p7 k_whole qb .nil aR (aj (pV 0) ak)))) ak)))))) (aF (aW iQ)) bH) (aF (aW (oV (gY oLe (pV 1) (pV 2) (bw _)) (oJ (gY oGe (pV 3) aA (bw _))))))),?_⟩
   refine ⟨x0,rfl,th0,fun H1 s1=>?_⟩
   rw [n0]
   unfold oX at q
   cases e0:qt d0 with
   | false=>rw [e0] at q; exact q H1 s1
   | true =>
     rw [e0,Bool.true_and] at q
     refine ⟨by show 3<=sizeLine; omega,fun p hp=>?_⟩
     refine ⟨p,rfl,⟨_,bU.of ao⟩,fun D hD=>comp_map (xs:=[x1,x2,x3]) (ys:=[iM d1,iM d2,iM d3].map V.bl) hD (bU.of ao) (by show 3<=sizeLine; omega) rfl (fun i x H' hx s2 b R hR=>?_) (fun H' s2 e=>?_)⟩
     . have S:=(s1.upd hp).trans s2
       have hx':∃ dd,bC H' x dd/\([iM d1,iM d2,iM d3].map V.bl)[i]?=some (.bl (iM dd)):=by
         match i,hx with
         | 0,hx=>cases hx; exact ⟨d1,h1.same S,rfl⟩
         | 1,hx=>cases hx; exact ⟨d2,h2.same S,rfl⟩
         | 2,hx=>cases hx; exact ⟨d3,h3.same S,rfl⟩
       obtain ⟨dd,hdd,ey⟩:=hx'
       refine aO fun dO aJ=>?_
       obtain ⟨th,_,w,_⟩:=hdd.kind (K:=K)
       subst aJ
       refine ⟨x,rfl,th,?_⟩
       rw [w]
       exact hR H' _ ey (Same.refl _)
     . refine ⟨D,[iM d1,iM d2,iM d3],rfl,dw.of e,?_⟩
       have ea:([iM d1,iM d2,iM d3]:List Bool).all id=(iM d1 && (iM d2 && iM d3)):=by simp
       rw [ea]
       have qq:=q H' ((s1.upd hp).trans s2)
       cases e1:(iM d1 && (iM d2 && iM d3)) with
       | false=>rw [e1] at qq; exact qq
       | true =>
         rw [e1,Bool.true_and] at qq
         obtain ⟨w1,w2⟩:=Bool.and_eq_true_iff.mp e1
         obtain ⟨w2,w3⟩:=Bool.and_eq_true_iff.mp w2
         cases h1 with
         | int i1 =>
           cases h2 with
           | int i2 =>
             cases h3 with
             | int i3 =>
               refine iw (fun z=>?_) (fun z=>?_)
               . have z':decide (intD (.int i1)<=intD (.int i2))=true:=z
                 rw [z',Bool.true_and] at qq
                 exact qq
               . have z':decide (intD (.int i1)<=intD (.int i2))=false:=(Bool.not_eq_true _).mp z
                 rw [z',Bool.false_and] at qq
                 exact qq
             | _=>cases w3
           | _=>cases w2
         | _=>cases w1
theorem Zg:bx ["thing"] ["thing"] (aq En):=⟨rfl,rfl,rfl,by decide +kernel,rfl,by decide +kernel,by decide +kernel⟩
theorem Zh {f Ca kE:Addr} {fd Ep mz:FuncData} (F:lH K "is_run" "is_run" En f fd) (T:Txt mg t8 t6 tR tL)
   (UW:aQ P w K mg base cC 2 Ca Ep ["thing"] (zP gD)) (U0:mg "is_named_number" = some (.ref Ca)) (U7:PySem.W.keepIn K (.ref Ca)=true) (U8:Binds K Ep ["thing"] [])
   (xJ:aQ P w K mg base cC 2 kE mz ["values"] sG) (xK:mg "is_rising" = some (.ref kE)) (xM:PySem.W.keepIn K (.ref kE)=true) (xO:Binds K mz ["values"] []):aQ P w K mg base cC 3 f fd ["thing"] (zP wN):=by
 refine F.ok Zg (fun vs H Q E h=>?_) (fun cdv A outer s H vs Q E hr h=>?_)
 . obtain ⟨x,d,rfl,_⟩:=h
   rfl
 . obtain ⟨x,d,rfl,hd,q⟩:=h
   have mR:sizeLine=16777216:=sizeLine_eq
   obtain ⟨_,⟨T',ty,kt⟩,_⟩:=hd.kind (K:=K)
   refine ⟨_,(au (dz (tX (dR (wz (aP iU rfl T.Uw PyProof.Rows.boot_isinstance (aj (pV 0) (aj (jO (v:=.ty "tuple") rfl T.tuple PyProof.Rows.boot_tuple rfl) ak))))) (pw_or1 (pN oEq (aP aY rfl T.len PySem.boot_len (aj (pV 0) ak)) aA (bw _)))) (aF (aW iQ)) bH) (au (dz (dR (wz (aP (j4 rfl) rfl T.all PyProof.Rows.boot_all (aj (cP (gW:=aq En) (own:=["row"]) (cap:=[]) (ix:=[]) rfl rfl ⟨rfl,by decide +kernel,by decide +kernel,by decide +kernel,rfl,by decide +kernel⟩ (cY (pV 0)) (fun b=>(aC (i:=0) (show (["row"]:List Str).Nodup by decide +kernel) rfl (Or.inl rfl))) (fun b=>bZ) (fun b=>(aD UW hr rfl U0 U7 U8 .nil aR (aj (pV 0) ak)))) ak)))) (aF (aW iQ)) bH) (aF (aW (aD xJ hr rfl xK xM xO .nil aR (aj (cP (gW:=aq En) (own:=["name","reading"]) (cap:=[]) (ix:=[]) rfl rfl ⟨rfl,by decide +kernel,by decide +kernel,by decide +kernel,rfl,by decide +kernel⟩ (cY (pV 0)) (fun b=>(dU rfl (aH (aC (i:=0) (show (["name","reading"]:List Str).Nodup by decide +kernel) rfl (Or.inl rfl)) (aH (aC (i:=1) (show (["name","reading"]:List Str).Nodup by decide +kernel) rfl (Or.inl rfl)) cN)))) (fun b=>bZ) (fun b=>(pV 1))) ak)))))),?_⟩
   refine ⟨_,_,_,_,rfl,ty,kt,?_⟩
   cases d with
   | tup xs =>
     refine aO fun dO aJ=>?_
     obtain ⟨a,vs,ez6,ha,Y4,r⟩:=hd.gk
     subst aJ
     subst ez6
     have len:=r.len
     refine ⟨a,vs,rfl,.inr (bU.of ha),?_⟩
     refine iw (fun z=>?_) (fun z=>?_)
     . have e:xs=[]:=List.eq_nil_of_length_eq_zero (by have:=of_decide_eq_true z; omega)
       subst e
       exact q H (Same.refl H)
     . have ne:xs.isEmpty=false:=by
         cases xs with
         | nil=>exact absurd (decide_eq_true (by rw [len]; rfl)) z
         | cons _ _=>rfl
       have q':∀ H',Same H H'->Q (.bl (xs.all gD && sy (xs.map fun x=>intD (Hl x)))) H':=fun H' s=>by
         have w:=q H' s
         simp only [wN,ne,Bool.not_false,Bool.true_and] at w
         exact w
       refine ⟨a,rfl,⟨_,bU.of ha⟩,fun D hD=>comp_map (xs:=vs) (ys:=(xs.map gD).map V.bl) hD (bU.of ha) (by omega) (by rw [List.length_map,List.length_map]; omega) (fun i x H' hx s2 b R hR=>?_) (fun H' s2 e=>?_)⟩
       . obtain ⟨y,hy,ya⟩:=r.get hx
         exact ⟨x,y,rfl,ya.same s2,fun fP s=>hR fP _ (by rw [List.getElem?_map,List.getElem?_map,hy]; rfl) s⟩
       . refine ⟨D,_,rfl,dw.of e,?_⟩
         rw [Bv]
         cases ea:xs.all gD with
         | false =>
           have w:=q' H' s2
           rw [ea] at w
           exact w
         | true =>
           rw [ea] at q'
           have form:∀ (i:Nat) (y:Da),xs[i]?=some y->∃ p j,y=.tup [p,.int j]:=fun i y hy=>by
             refine aO fun dO aJ=>?_
             obtain ⟨z,j,e,_⟩:=m9 (List.all_eq_true.mp ea y (List.mem_of_getElem? hy))
             subst aJ
             exact ⟨_,j,e⟩
           refine ⟨a,rfl,⟨_,bU.of (s2 _ _ ha)⟩,fun D2 hD2=>comp_map (xs:=vs) (ys:=(xs.map fun x=>intD (Hl x)).map V.int) hD2 (bU.of (s2 _ _ ha)) (by omega) (by rw [List.length_map,List.length_map]; omega) (fun i x H2 hx s3 b R hR=>?_) (fun H2 s3 e2=>?_)⟩
           . obtain ⟨y,hy,ya⟩:=r.get hx
             obtain ⟨p,j,rfl⟩:=form i y hy
             refine aO fun dO aJ=>?_
             obtain ⟨c,ws,ez7,hc,_,KH⟩:=(ya.same (s2.trans s3)).gk
             subst aJ
             subst ez7
             refine aO fun dO aJ=>?_
             obtain ⟨w1,w2,ez8,g1,g2⟩:=KH.two
             subst aJ
             subst ez8
             cases g2 with
             | int _ =>
               refine ⟨c,_,rfl,bU.of hc,rfl,_,_,rfl,_,_,rfl,rfl,?_⟩
               exact hR H2 _ (by rw [List.getElem?_map,List.getElem?_map,hy]; rfl) (Same.refl _)
           . refine ⟨D2,_,_,rfl,e2,by rw [List.length_map,List.length_map]; omega,.inl ⟨_,rfl,rfl⟩,fun H3 s4=>?_⟩
             exact q' H3 ((s2.trans s3).trans s4)
   | _=>exact q H (Same.refl H)
theorem mC:bx ["thing","name","low","high","drift","runs"] ["thing"] (aq qO):=⟨rfl,rfl,rfl,by decide +kernel,rfl,by decide +kernel,by decide +kernel⟩
theorem Ra {f fH Cd Rb:Addr} {fd gF Er Rc:FuncData} (F:lH K "is_house" "is_house" qO f fd) (T:Txt mg t8 t6 tR tL)
   (nG:aQ P w K mg base cC 3 fH gF ["thing","many"] pU) (nH:mg "has_parts" = some (.ref fH)) (nJ:PySem.W.keepIn K (.ref fH)=true) (nM:Binds K gF ["thing","many"] [])
   (U9:aQ P w K mg base cC 3 Cd Er ["name","low","high","drift"] Bu) (Va:mg "is_clock" = some (.ref Cd)) (Vb:PySem.W.keepIn K (.ref Cd)=true) (Vc:Binds K Er ["name","low","high","drift"] [])
   (abX:aQ P w K mg base cC 3 Rb Rc ["thing"] (zP wN)) (abY:mg "is_run" = some (.ref Rb)) (abZ:PySem.W.keepIn K (.ref Rb)=true) (ab0:Binds K Rc ["thing"] []):aQ P w K mg base cC 4 f fd ["thing"] (zP fV):=by
 refine F.ok mC (fun vs H Q E h=>?_) (fun cdv A outer s H vs Q E hr h=>?_)
 . obtain ⟨x,d,rfl,_⟩:=h
   rfl
 . obtain ⟨x,d,rfl,hd,q⟩:=h
   have mR:sizeLine=16777216:=sizeLine_eq
   refine ⟨_,(au (dz (dR (wz (aD nG hr rfl nH nJ nM .nil aR (aj (pV 0) (aj aA ak))))) (aF (aW iQ)) bH) (au (jZ (pV 0) (dU rfl (aH (aC (i:=1) mC.nd rfl (Or.inl rfl)) (aH (aC (i:=2) mC.nd rfl (Or.inl rfl)) (aH (aC (i:=3) mC.nd rfl (Or.inl rfl)) (aH (aC (i:=4) mC.nd rfl (Or.inl rfl)) (aH (aC (i:=5) mC.nd rfl (Or.inl rfl)) cN))))))) (au (dz (tX (dR (wz (aD U9 hr rfl Va Vb Vc .nil aR (aj (pV 1) (aj (pV 2) (aj (pV 3) (aj (pV 4) ak))))))) (pw_or1 (dR (wz (aP iU rfl T.Uw PyProof.Rows.boot_isinstance (aj (pV 5) (aj (jO (v:=.ty "tuple") rfl T.tuple PyProof.Rows.boot_tuple rfl) ak))))))) (aF (aW iQ)) bH) (aF (aW (aP (j4 rfl) rfl T.all PyProof.Rows.boot_all (aj (cP (gW:=aq qO) (own:=["run"]) (cap:=[]) (ix:=[]) rfl rfl ⟨rfl,by decide +kernel,by decide +kernel,by decide +kernel,rfl,by decide +kernel⟩ (cY (pV 5)) (fun b=>(aC (i:=0) (show (["run"]:List Str).Nodup by decide +kernel) rfl (Or.inl rfl))) (fun b=>bZ) (fun b=>(aD abX hr rfl abY abZ ab0 .nil aR (aj (pV 0) ak)))) ak))))))),?_⟩
   refine ⟨x,d,5,rfl,hd,?_⟩
   have no:∀ d',m8 d' 5=false->fV d'=false:=fun d' h=>by
     cases d' with
     | tup xs =>
       match xs,h with
       | [],_=>rfl
       | [_],_=>rfl
       | [_,_],_=>rfl
       | [_,_,_],_=>rfl
       | [_,_,_,_],_=>rfl
       | [_,_,_,_,_],h=>cases h
       | _ :: _ :: _ :: _ :: _ :: _ :: _,_=>rfl
     | _=>rfl
   cases e:m8 d 5 with
   | false =>
     have z:=q H (Same.refl H)
     rw [no d e] at z
     exact z
   | true =>
     cases d with
     | tup xs =>
       refine aO fun dO aJ=>?_
       obtain ⟨a,vs,ez9,ha,Y4,r⟩:=hd.gk
       subst aJ
       subst ez9
       refine aO fun dO aJ=>?_
       obtain ⟨y1,y2,y3,y4,y5,aft⟩:=afl (of_decide_eq_true e)
       subst aJ
       subst aft
       refine aO fun dO aJ=>?_
       obtain ⟨v1,v2,v3,v4,v5,afu,h1,h2,h3,h4,h5⟩:=r.five
       subst aJ
       subst afu
       refine ⟨a,_,rfl,bU.of ha,rfl,_,_,rfl,_,_,rfl,_,_,rfl,_,_,rfl,_,_,rfl,rfl,?_⟩
       refine ⟨v1,v2,v3,v4,y1,y2,y3,y4,rfl,h1,h2,h3,h4,fun H1 s1=>?_⟩
       cases ec:oX y1 y2 y3 y4 with
       | false =>
         have w:=q H1 s1
         simp only [fV,ec,Bool.false_and] at w
         exact w
       | true =>
         have q':∀ H',Same H H'->Q (.bl (JR y5)) H':=fun H' s=>by
           have w:=q H' s
           simp only [fV,ec,Bool.true_and] at w
           exact w
         refine aO fun dO aJ=>?_
         obtain ⟨_,⟨T',ty,kt⟩,_⟩:=(h5.same s1).kind (K:=K)
         subst aJ
         refine ⟨_,_,_,_,rfl,ty,kt,?_⟩
         cases y5 with
         | tup rs =>
           refine aO fun dO aJ=>?_
           obtain ⟨c,ws,afv,hc,lw,rr⟩:=(h5.same s1).gk
           subst aJ
           subst afv
           have len:=rr.len
           refine ⟨c,rfl,⟨_,bU.of hc⟩,fun D hD=>comp_map (xs:=ws) (ys:=(rs.map wN).map V.bl) hD (bU.of hc) (by omega) (by rw [List.length_map,List.length_map]; omega) (fun i x H' hx s2 b R hR=>?_) (fun H' s2 e=>?_)⟩
           . obtain ⟨y,hy,ya⟩:=rr.get hx
             exact ⟨x,y,rfl,ya.same s2,fun fP s=>hR fP _ (by rw [List.getElem?_map,List.getElem?_map,hy]; rfl) s⟩
           . refine ⟨D,_,rfl,dw.of e,?_⟩
             rw [Bv]
             exact q' H' (s1.trans s2)
         | _=>exact q' H1 s1
     | _=>cases e
theorem Mr:bx ["house"] ["house"] (aq nA):=⟨rfl,rfl,rfl,by decide +kernel,rfl,by decide +kernel,by decide +kernel⟩
theorem Ms {f:Addr} {fd:FuncData} (F:lH K "rows_in" "rows_in" nA f fd):aQ P w K mg base cC 1 f fd ["house"] sI:=by
 refine F.ok Mr (fun vs H Q E h=>?_) (fun cdv A outer s H vs Q E hr h=>?_)
 . obtain ⟨x,hh,rfl,_⟩:=h
   rfl
 . obtain ⟨x,hh,rfl,⟨a,b,rfl,ha,c,vs,rfl,hc,pr⟩,gd,q⟩:=h
   have mR:sizeLine=16777216:=sizeLine_eq
   refine ⟨_,(aF (aW (Dw (gW:=aq nA) (own:=["run","row"]) (cap:=[]) (ix:=[]) rfl rfl ⟨rfl,by decide +kernel,by decide +kernel,by decide +kernel,rfl,by decide +kernel⟩ (cY (bR iV (pV 0) aA (fun _ _=>rfl))) (fun b=>(aC (i:=0) (show (["run","row"]:List Str).Nodup by decide +kernel) rfl (Or.inl rfl))) (fun b=>bZ) (fun b=>cY (pV 0)) (fun b=>(aC (i:=1) (show (["run","row"]:List Str).Nodup by decide +kernel) rfl (Or.inl rfl))) (fun b=>bZ) (fun b=>pV 1)))),?_⟩
   refine eG (bU.of ha) (i:=4) (v:=.ref c) (by rfl) ?_
   refine ⟨c,rfl,⟨_,bU.of hc⟩,fun D hD=>⟨WS vs.length (fun i σ H'=>∃ o1 o2 zs,σ=[o1,o2]/\eE H H' D zs/\Paired (dJ H) zs (hh.runs.take i).flatten),ws0 ⟨none,none,[],rfl,eE.start hD,.nil⟩,fun b=>Bp (xs:=vs) _ (fun i σ H' _ hz1=>by obtain ⟨_,_,_,_,G,_⟩:=hz1; exact bU.of (G.same _ _ hc)) (fun σ H' hz2=>?_) (fun i x σ H' hx hi hz3=>?_)⟩⟩
   . refine aO fun dO aJ=>?_
     obtain ⟨_,_,zs,_,G,pz⟩:=hz2
     subst aJ
     refine q D zs H' hD G.at' G.same ?_
     rw [pr.length,List.take_length] at pz
     exact aK (fun _ _ z=>z.ts G.same.tups) pz
   . refine aO fun dO aJ=>?_
     obtain ⟨o1,o2,zs,e,G,pz⟩:=hz3
     subst aJ
     subst e
     refine aO fun dO aJ=>?_
     obtain ⟨r,hr',c2,ws,afx,hc2,pr2⟩:=bf pr hx
     subst aJ
     subst afx
     have gr:=gd.runs r (List.mem_of_getElem? hr')
     refine ⟨c2,rfl,⟨_,bU.of (G.same _ _ hc2)⟩,WS ws.length (fun j σ fP=>∃ o2 zs',σ=[some (.ref c2),o2]/\eE H fP D zs'/\Paired (dJ H) zs' ((hh.runs.take i).flatten++r.take j)),ws0 ⟨o2,zs,rfl,G,by rw [List.take_zero,List.append_nil]; exact pz⟩,Bp (xs:=ws) _ (fun j σ fP _ hz1=>by obtain ⟨_,_,_,G',_⟩:=hz1; exact bU.of (G'.same _ _ hc2)) (fun σ fP ⟨o2',zs',e',G',pz'⟩=>nxs hi ⟨_,_,zs',e',G',?_⟩) (fun j y σ fP hy hj hz3=>?_)⟩
     . rw [pr2.length,List.take_length] at pz'
       rw [List.take_add_one,hr',List.flatten_append]
       simpa using pz'
     . refine aO fun dO aJ=>?_
       obtain ⟨o2',zs',e',G',pz'⟩:=hz3
       subst aJ
       subst e'
       obtain ⟨rr,hrr,ra⟩:=bf pr2 hy
       have hl:=pz'.length
       have hl1:=oY (l:=hh.runs.take i) (n:=25) fun q hq=>(gd.runs q (List.mem_of_mem_take hq)).few
       have hl2:(hh.runs.take i).length<=25:=Nat.le_trans (List.length_take_le' i hh.runs) gd.few
       have hl3:(hh.runs.take i).length * 25<=25 * 25:=Nat.mul_le_mul_right 25 hl2
       have hl4:=gr.few
       rw [List.length_append,List.length_take] at hl
       refine ⟨zs',G'.at',by omega,nxs hj ⟨_,zs'++[y],rfl,G'.put hD y,?_⟩⟩
       rw [List.take_add_one,hrr,<- List.append_assoc]
       exact cQ pz' (.cons ra .nil)
theorem Es:bx ["houses"] ["houses"] (aq jl):=⟨rfl,rfl,rfl,by decide +kernel,rfl,by decide +kernel,by decide +kernel⟩
theorem Et {f kI:Addr} {fd mD:FuncData} (F:lH K "row_names" "row_names" jl f fd)
   (xP:aQ P w K mg base cC 1 kI mD ["house"] sI) (xQ:mg "rows_in" = some (.ref kI)) (xR:PySem.W.keepIn K (.ref kI)=true) (xT:Binds K mD ["house"] []):aQ P w K mg base cC 2 f fd ["houses"] qK:=by
 refine F.ok Es (fun vs H Q E h=>?_) (fun cdv A outer s H vs Q E hr h=>?_)
 . obtain ⟨x,hs,rfl,_⟩:=h
   rfl
 . obtain ⟨x,hs,rfl,⟨c,vs,rfl,hc,pr⟩,h6,gd,q⟩:=h
   have mR:sizeLine=16777216:=sizeLine_eq
   refine ⟨_,(aF (aW (Dw (gW:=aq jl) (own:=["house","name","reading"]) (cap:=[]) (ix:=[]) rfl rfl ⟨rfl,by decide +kernel,by decide +kernel,by decide +kernel,rfl,by decide +kernel⟩ (cY (pV 0)) (fun b=>(aC (i:=0) (show (["house","name","reading"]:List Str).Nodup by decide +kernel) rfl (Or.inl rfl))) (fun b=>bZ) (fun b=>pK (aD xP hr rfl xQ xR xT .nil aR (aj (pV 0) ak))) (fun b=>(dU rfl (aH (aC (i:=1) (show (["house","name","reading"]:List Str).Nodup by decide +kernel) rfl (Or.inl rfl)) (aH (aC (i:=2) (show (["house","name","reading"]:List Str).Nodup by decide +kernel) rfl (Or.inl rfl)) cN)))) (fun b=>bZ) (fun b=>pV 1)))),?_⟩
   refine ⟨c,rfl,⟨_,bU.of hc⟩,fun D hD=>⟨WS vs.length (fun i σ H'=>∃ o1 o2 o3,σ=[o1,o2,o3]/\eE H H' D (((hs.take i).flatMap bQ).map V.str)),ws0 ⟨none,none,none,rfl,eE.start hD⟩,fun b=>Bp (xs:=vs) _ (fun i σ H' _ hz4=>by obtain ⟨_,_,_,_,G⟩:=hz4; exact bU.of (G.same _ _ hc)) (fun σ H' hz5=>?_) (fun i x σ H' hx hi hz6=>?_)⟩⟩
   . refine aO fun dO aJ=>?_
     obtain ⟨_,_,_,_,G⟩:=hz5
     subst aJ
     refine q D H' hD ?_ G.same
     have e:=G.at'
     rw [pr.length,List.take_length] at e
     exact e
   . refine aO fun dO aJ=>?_
     obtain ⟨o1,o2,o3,e,G⟩:=hz6
     subst aJ
     subst e
     obtain ⟨h,hh',ha⟩:=bf pr hx
     have gh:=gd h (List.mem_of_getElem? hh')
     refine ⟨x,h,rfl,ha.ts G.same.tups,gh,fun l zs H2 hl el s2 pz=>?_⟩
     have nlD:l≠D:=fun z=>by subst z; rw [G.at'] at hl; cases hl
     have G2:=G.more s2
     refine ⟨l,rfl,⟨_,dw.of el⟩,WS zs.length (fun j σ fP=>∃ o2 o3,σ=[some x,o2,o3]/\eE H fP D (((hs.take i).flatMap bQ++((jg h).take j).map Prod.fst).map V.str)/\fP l=some (.lst zs)/\fO H2 fP),ws0 ⟨o2,o3,rfl,by simpa using G2,el,fO.refl _⟩,JK (xs:=zs) _ (fun j σ fP _ hz4=>by obtain ⟨_,_,_,_,e',_⟩:=hz4; exact dw.of e') (fun σ fP ⟨o2',o3',e',G',_,_⟩=>nxs hi ⟨_,_,_,e',?_⟩) (fun j y σ fP hy hj hz6=>?_)⟩
     . rw [pz.length,List.take_length] at G'
       rw [List.take_add_one,hh',List.flatMap_append]
       simpa [bQ] using G'
     . refine aO fun dO aJ=>?_
       obtain ⟨o2',o3',e',G',el',t'⟩:=hz6
       subst aJ
       subst e'
       obtain ⟨rr,hrr,ra⟩:=bf pz hy
       obtain ⟨ra1,rfl,ra2⟩:=ra.ts t'
       refine ⟨ra1,_,rfl,bU.of ra2,rfl,_,_,rfl,_,_,rfl,rfl,?_⟩
       have hl1:((hs.take i).flatMap bQ).length<=(hs.take i).length * 625:=by
         rw [List.flatMap_def]
         have z:=oY (l:=(hs.take i).map bQ) (n:=625) fun q hq=>by
           obtain ⟨k,hk,rfl⟩:=List.mem_map.mp hq
           have z1:=(gd k (List.mem_of_mem_take hk)).len
           show ((jg k).map Prod.fst).length<=625
           rw [List.length_map]; exact z1
         rw [List.length_map] at z
         exact z
       have hl2:(hs.take i).length<=6:=Nat.le_trans (List.length_take_le' i hs) h6
       have hl3:(hs.take i).length * 625<=6 * 625:=Nat.mul_le_mul_right 625 hl2
       have hl4:=gh.len
       refine ⟨_,G'.at',by rw [List.length_map,List.length_append,List.length_map,List.length_take]; omega,nxs hj ⟨_,_,rfl,?_,?_,t'.put G'.at' (fun _ z=>nomatch z)⟩⟩
       . have z:=G'.put hD (V.str rr.1)
         rw [List.take_add_one,hrr]
         simpa using z
       . rw [aL nlD]; exact el'
theorem Mt:bx ["names"] ["names"] (aq pW):=⟨rfl,rfl,rfl,by decide +kernel,rfl,by decide +kernel,by decide +kernel⟩
theorem Mu {f:Addr} {fd:FuncData} (F:lH K "are_unlike" "are_unlike" pW f fd) (T:Txt mg t8 t6 tR tL):aQ P w K mg base cC 1 f fd ["names"] wR:=by
 refine F.ok Mt (fun vs H Q E h=>?_) (fun cdv A outer s H vs Q E hr h=>?_)
 . obtain ⟨x,hs,rfl,_⟩:=h
   rfl
 . obtain ⟨a,ss,rfl,ha,few,q⟩:=h
   have ek:(ss.map (Sum.inr:Str->Key)).map kV=ss.map V.str:=by rw [List.map_map]; rfl
   refine ⟨_,(aF (aW (gY oEq (aP Lq rfl T.len PySem.boot_len (aj (cZ (PX rfl) rfl T.set PyProof.Rows.boot_set (aj (pV 0) ak)) ak)) (aP aY rfl T.len PySem.boot_len (aj (pV 0) ak)) (bw _)))),?_⟩
   refine ⟨a,ss.map Sum.inr,rfl,dw.of (by rw [ek]; exact ha),by rw [List.length_map]; omega,fun l hl=>?_⟩
   refine ⟨l,ss.map Sum.inr,rfl,ao,?_⟩
   have s1:=(Same.refl H).upd (o:=.ext (PN P w l (ss.map Sum.inr))) hl
   refine ⟨a,ss.map V.str,rfl,.inl (dw.of (s1 _ _ ha)),?_⟩
   show Q (.bl (decide (((dY (ss.map Sum.inr) (ss.map (Sum.inr:Str->Key)).length).length:Int)=((ss.map V.str).length:Int)))) _
   have e:decide (((dY (ss.map Sum.inr) (ss.map (Sum.inr:Str->Key)).length).length:Int)=((ss.map V.str).length:Int))=decide ss.Nodup:=by
     rw [Bool.eq_iff_iff,decide_eq_true_iff,decide_eq_true_iff,List.length_map,List.length_map]
     constructor
     . intro z
       have z2:=zQ (ks:=ss.map (Sum.inr:Str->Key)) ss.length (by rw [List.length_map]; exact Nat.le_refl _) (by omega)
       rw [List.take_of_length_le (by rw [List.length_map]; exact Nat.le_refl _)] at z2
       rw [List.nodup_iff_pairwise_ne,List.pairwise_map] at z2
       rw [List.nodup_iff_pairwise_ne]
       exact z2.imp fun h e=>h (by rw [e])
     . intro z
       have nk:(ss.map (Sum.inr:Str->Key)).Nodup:=by
         rw [List.nodup_iff_pairwise_ne,List.pairwise_map]
         exact (List.nodup_iff_pairwise_ne.mp z).imp fun h z=>h (Sum.inr.inj z)
       rw [wD nk _ (by rw [List.length_map]; exact Nat.le_refl _),List.length_take,List.length_map]
       omega
   rw [e]
   exact q _ s1
end
end nj
namespace nj
open PySem L2 iG
section
variable {P:Program} {w:World} {K:PySem.W.Frag} {mg:Str->Option Value} {base:Heap} {t8 t6 tR tL:Tok}
theorem Aa:bx ["thing","names"] ["thing"] (aq lg):=⟨rfl,rfl,rfl,by decide +kernel,rfl,by decide +kernel,by decide +kernel⟩
theorem Mv {f Ce qR xU:Addr} {fd Eu vf Ab:FuncData} (F:lH K "are_houses" "are_houses" lg f fd) (T:Txt mg t8 t6 tR tL)
   (Vd:aQ P w K mg base cC 4 Ce Eu ["thing"] (zP fV)) (Ve:mg "is_house" = some (.ref Ce)) (Vf:PySem.W.keepIn K (.ref Ce)=true) (Vg:Binds K Eu ["thing"] [])
   (HD:aQ P w K mg base cC 4 qR vf ["houses"] qK) (HF:mg "row_names" = some (.ref qR)) (HJ:PySem.W.keepIn K (.ref qR)=true) (HN:Binds K vf ["houses"] [])
   (Ew:aQ P w K mg base cC 4 xU Ab ["names"] wR) (Ey:mg "are_unlike" = some (.ref xU)) (Ez:PySem.W.keepIn K (.ref xU)=true) (EY:Binds K Ab ["names"] []):aQ P w K mg base cC 5 f fd ["thing"] (zP iZ):=by
 refine F.ok Aa (fun vs H Q E h=>?_) (fun cdv A outer s H vs Q E hr h=>?_)
 . obtain ⟨x,d,rfl,_⟩:=h
   rfl
 . obtain ⟨x,d,rfl,hd,q⟩:=h
   have mR:sizeLine=16777216:=sizeLine_eq
   obtain ⟨_,⟨T',ty,kt⟩,_⟩:=hd.kind (K:=K)
   refine ⟨_,(au (dz (tX (dR (wz (aP iU rfl T.Uw PyProof.Rows.boot_isinstance (aj (pV 0) (aj (jO (v:=.ty "tuple") rfl T.tuple PyProof.Rows.boot_tuple rfl) ak))))) (pw_or1 (dR (abw oLe oLe aA (aP aY rfl T.len PySem.boot_len (aj (pV 0) ak)) (vG (v:=.int 6) rfl T.abS ⟨_,rfl⟩))))) (aF (aW iQ)) bH) (au (dz (dR (wz (aP (j4 rfl) rfl T.all PyProof.Rows.boot_all (aj (cP (gW:=aq lg) (own:=["house"]) (cap:=[]) (ix:=[]) rfl rfl ⟨rfl,by decide +kernel,by decide +kernel,by decide +kernel,rfl,by decide +kernel⟩ (cY (pV 0)) (fun b=>(aC (i:=0) (show (["house"]:List Str).Nodup by decide +kernel) rfl (Or.inl rfl))) (fun b=>bZ) (fun b=>(aD Vd hr rfl Ve Vf Vg .nil aR (aj (pV 0) ak)))) ak)))) (aF (aW iQ)) bH) (au (aX (i:=1) Aa.nd rfl (Or.inl rfl) (aD HD hr rfl HF HJ HN .nil aR (aj (pV 0) ak))) (aF (aW (oV (aD Ew hr rfl Ey Ez EY .nil aR (aj (cP (gW:=aq lg) (own:=["house"]) (cap:=[]) (ix:=[]) rfl rfl ⟨rfl,by decide +kernel,by decide +kernel,by decide +kernel,rfl,by decide +kernel⟩ (cY (pV 0)) (fun b=>(aC (i:=0) (show (["house"]:List Str).Nodup by decide +kernel) rfl (Or.inl rfl))) (fun b=>bZ) (fun b=>(bR iV (pV 0) aA (fun _ _=>rfl)))) ak)) (oV (aD Ew hr rfl Ey Ez EY .nil aR (aj (pV 1) ak)) (oJ (gY oLe (aP aY rfl T.len PySem.boot_len (aj (pV 1) ak)) (vG (v:=.int 24) rfl T.abT ⟨_,rfl⟩) (bw _)))))))))),?_⟩
   refine ⟨_,_,_,_,rfl,ty,kt,?_⟩
   cases d with
   | tup xs =>
     refine aO fun dO aJ=>?_
     obtain ⟨c,vs,afB,hc,Y4,r⟩:=hd.gk
     subst aJ
     subst afB
     have len:=r.len
     have q:∀ H',Same H H'->Q (.bl (decide (1<=xs.length) && (decide (xs.length<=6) && (xs.all fV && (decide ((xs.map bD).map aB.name).Nodup && (decide (namesOf (xs.map bD)).Nodup && decide ((namesOf (xs.map bD)).length<=24))))))) H':=q
     refine ⟨c,vs,rfl,.inr (bU.of hc),?_⟩
     refine iw (fun z=>?_) (fun z=>?_)
     . have z1:1<=xs.length:=by have:=of_decide_eq_true z; omega
       rw [decide_eq_true z1,Bool.true_and] at q
       by_cases z2:xs.length<=6
       . rw [decide_eq_true z2,Bool.true_and] at q
         refine iw (fun w=>by rw [decide_eq_true (show (vs.length:Int)<=6 by omega)] at w; cases w) (fun w=>?_)
         refine ⟨c,rfl,⟨_,bU.of hc⟩,fun D hD=>comp_map (xs:=vs) (ys:=(xs.map fV).map V.bl) hD (bU.of hc) (by omega) (by rw [List.length_map,List.length_map]; omega) (fun i x H' hx s2 b R hR=>?_) (fun H' s2 e=>?_)⟩
         . obtain ⟨y,hy,ya⟩:=r.get hx
           exact ⟨x,y,rfl,ya.same s2,fun fP s=>hR fP _ (by rw [List.getElem?_map,List.getElem?_map,hy]; rfl) s⟩
         . refine ⟨D,_,rfl,dw.of e,?_⟩
           rw [Bv]
           cases ea:xs.all fV with
           | false=>rw [ea] at q; exact q H' s2
           | true =>
             rw [ea,Bool.true_and] at q
             obtain ⟨pr,gd⟩:=uc r ea
             have hc2:=s2 _ _ hc
             have lh:(xs.map bD).length<=6:=by rw [List.length_map]; exact z2
             refine ⟨.ref c,xs.map bD,rfl,⟨c,vs,rfl,hc2,aK (fun _ _ z=>z.ts s2.tups) pr⟩,lh,gd,fun l H2 hl el s3=>?_⟩
             refine ⟨c,rfl,⟨_,bU.of (s3 _ _ hc2)⟩,fun D2 hD2=>comp_map (xs:=vs) (ys:=(xs.map bD).map fun h=>V.str h.name) hD2 (bU.of (s3 _ _ hc2)) (by omega) (by rw [List.length_map,List.length_map]; omega) (fun i x H3 hx s4 b R hR=>?_) (fun H3 s4 e2=>?_)⟩
             . obtain ⟨h,hh',ha⟩:=bf pr hx
               refine aO fun dO aJ=>?_
               obtain ⟨a1,b1,afC,g1,_⟩:=ha.ts ((s2.trans s3).trans s4).tups
               subst aJ
               subst afC
               refine eG (bU.of g1) (i:=0) (v:=.str h.name) (by rfl) ?_
               exact hR H3 _ (by rw [List.getElem?_map,hh']; rfl) (Same.refl _)
             . refine ⟨D2,(xs.map bD).map aB.name,rfl,by rw [List.map_map]; exact e2,by rw [List.length_map]; omega,fun H4 s5=>?_⟩
               have S4:=(((s2.trans s3).trans s4).trans s5)
               cases en:decide ((xs.map bD).map aB.name).Nodup with
               | false=>rw [en] at q; exact q H4 S4
               | true =>
                 rw [en,Bool.true_and] at q
                 have el4:=(s4.trans s5) _ _ el
                 have big:(namesOf (xs.map bD)).length<=625 * 6:=by
                   unfold namesOf
                   rw [List.flatMap_def]
                   have z:=oY (l:=(xs.map bD).map bQ) (n:=625) fun q hq=>by
                     obtain ⟨k,hk,rfl⟩:=List.mem_map.mp hq
                     have z1:=(gd k hk).len
                     show ((jg k).map Prod.fst).length<=625
                     rw [List.length_map]; exact z1
                   rw [List.length_map] at z
                   have:(xs.map bD).length * 625<=6 * 625:=Nat.mul_le_mul_right 625 lh
                   omega
                 refine ⟨l,namesOf (xs.map bD),rfl,el4,by omega,fun H5 s6=>?_⟩
                 cases er:decide (namesOf (xs.map bD)).Nodup with
                 | false=>rw [er] at q; exact q H5 (S4.trans s6)
                 | true =>
                   rw [er,Bool.true_and] at q
                   refine ⟨l,_,rfl,.inl (dw.of (s6 _ _ el4)),?_⟩
                   have e9:decide ((((namesOf (xs.map bD)).map V.str).length:Int)<=24)=decide ((namesOf (xs.map bD)).length<=24):=by
                     rw [List.length_map,Bool.eq_iff_iff,decide_eq_true_iff,decide_eq_true_iff]; omega
                   show Q (.bl (decide ((((namesOf (xs.map bD)).map V.str).length:Int)<=24))) H5
                   rw [e9]
                   exact q H5 (S4.trans s6)
       . rw [decide_eq_false z2] at q
         refine iw (fun w=>q H (Same.refl H)) (fun w=>?_)
         exact absurd (by rw [decide_eq_false (show ¬ (vs.length:Int)<=6 by omega)]; rfl) w
     . have z1:¬ 1<=xs.length:=fun w=>z (decide_eq_true (by omega))
       rw [decide_eq_false z1] at q
       exact q H (Same.refl H)
   | _=>exact q H (Same.refl H)
theorem mF:bx ["thing","sent","taken","least","most"] ["thing"] (aq pX):=⟨rfl,rfl,rfl,by decide +kernel,rfl,by decide +kernel,by decide +kernel⟩
theorem Mw {f fH kj jd:Addr} {fd gF lA jE:FuncData} (F:lH K "is_letter" "is_letter" pX f fd)
   (nG:aQ P w K mg base cC 1 fH gF ["thing","many"] pU) (nH:mg "has_parts" = some (.ref fH)) (nJ:PySem.W.keepIn K (.ref fH)=true) (nM:Binds K gF ["thing","many"] [])
   (uD:aQ P w K mg base cC 1 kj lA ["thing"] (wM K)) (uE:mg "is_name" = some (.ref kj)) (uF:PySem.W.keepIn K (.ref kj)=true) (uG:Binds K lA ["thing"] [])
   (pZ:aQ P w K mg base cC 1 jd jE ["thing"] (rZ K)) (p7:mg "is_whole" = some (.ref jd)) (k_whole:PySem.W.keepIn K (.ref jd)=true) (qb:Binds K jE ["thing"] []):aQ P w K mg base cC 2 f fd ["thing"] (zP eZ):=by
 refine F.ok mF (fun vs H Q E h=>?_) (fun cdv A outer s H vs Q E hr h=>?_)
 . obtain ⟨x,d,rfl,_⟩:=h
   rfl
 . obtain ⟨x,d,rfl,hd,q⟩:=h
   refine ⟨_,(au (dz (dR (wz (aD nG hr rfl nH nJ nM .nil aR (aj (pV 0) (aj aA ak))))) (aF (aW iQ)) bH) (au (jZ (pV 0) (dU rfl (aH (aC (i:=1) mF.nd rfl (Or.inl rfl)) (aH (aC (i:=2) mF.nd rfl (Or.inl rfl)) (aH (aC (i:=3) mF.nd rfl (Or.inl rfl)) (aH (aC (i:=4) mF.nd rfl (Or.inl rfl)) cN)))))) (au (dz (tX (dR (wz (aD uD hr rfl uE uF uG .nil aR (aj (pV 1) ak)))) (pw_or1 (dR (wz (aD uD hr rfl uE uF uG .nil aR (aj (pV 2) ak)))))) (aF (aW iQ)) bH) (au (dz (tX (dR (wz (aD pZ hr rfl p7 k_whole qb .nil aR (aj (pV 3) ak)))) (pw_or1 (pN oLt (pV 3) aA (bw _)))) (aF (aW iQ)) bH) (aF (aW (ae9 (gY XR (pV 4) tK (bw _)) (oJ (oV (aD pZ hr rfl p7 k_whole qb .nil aR (aj (pV 4) ak)) (oJ (gY oGe (pV 4) (pV 3) (bw _)))))))))))),?_⟩
   refine ⟨x,d,4,rfl,hd,?_⟩
   have no:∀ d',m8 d' 4=false->eZ d'=false:=fun d' h=>by
     cases d' with
     | tup xs =>
       match xs,h with
       | [],_=>rfl
       | [_],_=>rfl
       | [_,_],_=>rfl
       | [_,_,_],_=>rfl
       | [_,_,_,_],h=>cases h
       | _ :: _ :: _ :: _ :: _ :: _,_=>rfl
     | _=>rfl
   cases e:m8 d 4 with
   | false =>
     have z:=q H (Same.refl H)
     rw [no d e] at z
     exact z
   | true =>
     cases d with
     | tup xs =>
       refine aO fun dO aJ=>?_
       obtain ⟨a,vs,afD,ha,Y4,r⟩:=hd.gk
       subst aJ
       subst afD
       refine aO fun dO aJ=>?_
       obtain ⟨y1,y2,y3,y4,afE⟩:=abJ (of_decide_eq_true e)
       subst aJ
       subst afE
       refine aO fun dO aJ=>?_
       obtain ⟨v1,v2,v3,v4,afF,h1,h2,h3,h4⟩:=r.four
       subst aJ
       subst afF
       refine ⟨a,_,rfl,bU.of ha,rfl,_,_,rfl,_,_,rfl,_,_,rfl,_,_,rfl,rfl,?_⟩
       refine aO fun dO aJ=>?_
       obtain ⟨th1,_,_,n1⟩:=h1.kind (K:=K)
       subst aJ
       refine ⟨_,rfl,th1,fun H1 s1=>?_⟩
       rw [n1]
       have q:∀ H',Same H H'->Q (.bl (qt y1 && (qt y2 && (iM y3 && (decide (1<=intD y3) && JT (intD y3) y4))))) H':=q
       cases e1:qt y1 with
       | false=>rw [e1] at q; exact q H1 s1
       | true =>
         rw [e1,Bool.true_and] at q
         refine aO fun dO aJ=>?_
         obtain ⟨th2,_,_,n2⟩:=(h2.same s1).kind (K:=K)
         subst aJ
         refine ⟨_,rfl,th2,fun H2 s2=>?_⟩
         rw [n2]
         have S:=s1.trans s2
         cases e2:qt y2 with
         | false=>rw [e2] at q; exact q H2 S
         | true =>
           rw [e2,Bool.true_and] at q
           refine aO fun dO aJ=>?_
           obtain ⟨th3,_,w3,_⟩:=(h3.same S).kind (K:=K)
           subst aJ
           refine ⟨_,rfl,th3,?_⟩
           rw [w3]
           cases e3:iM y3 with
           | false=>rw [e3] at q; exact q H2 S
           | true =>
             rw [e3,Bool.true_and] at q
             cases h3 with
             | int i3 =>
               refine iw (fun z=>?_) (fun z=>?_)
               . have z':decide (1<=intD (.int i3))=false:=decide_eq_false (by have:=of_decide_eq_true z; show ¬ (1:Int)<=i3; omega)
                 rw [z',Bool.false_and] at q
                 exact q H2 S
               . have z':decide (1<=intD (.int i3))=true:=decide_eq_true (by
                   have:¬ i3<1:=fun w=>z (decide_eq_true w)
                   show (1:Int)<=i3; omega)
                 rw [z',Bool.true_and] at q
                 refine ⟨rfl,?_⟩
                 refine aO fun dO aJ=>?_
                 obtain ⟨th4,_,w4,_⟩:=(h4.same S).kind (K:=K)
                 subst aJ
                 cases h4 with
                 | non=>exact q H2 S
                 | int i4 =>
                   refine ⟨_,rfl,th4,?_⟩
                   exact q H2 S
                 | bl b4=>exact ⟨_,rfl,th4,q H2 S⟩
                 | str z4 hz4=>exact ⟨_,rfl,th4,q H2 S⟩
                 | tup g1 g2 g3=>exact ⟨_,rfl,th4,q H2 S⟩
                 | lst g1=>exact ⟨_,rfl,th4,q H2 S⟩
                 | Tg g1=>exact ⟨_,rfl,th4,q H2 S⟩
             | _=>cases e3
     | _=>cases e
theorem jm:bx ["thing","houses","owners","sent","taken","least","most"] ["thing","houses"] (aq jc):=⟨rfl,rfl,rfl,by decide +kernel,rfl,by decide +kernel,by decide +kernel⟩
theorem HW {f xV kI kE:Addr} {fd Ac mD mz:FuncData} (F:lH K "are_letters" "are_letters" jc f fd) (T:Txt mg t8 t6 tR tL)
   (Rf:aQ P w K mg base cC 2 xV Ac ["thing"] (zP eZ)) (Rg:mg "is_letter" = some (.ref xV)) (Rh:PySem.W.keepIn K (.ref xV)=true) (Ri:Binds K Ac ["thing"] [])
   (xP:aQ P w K mg base cC 2 kI mD ["house"] sI) (xQ:mg "rows_in" = some (.ref kI)) (xR:PySem.W.keepIn K (.ref kI)=true) (xT:Binds K mD ["house"] [])
   (xJ:aQ P w K mg base cC 2 kE mz ["values"] sG) (xK:mg "is_rising" = some (.ref kE)) (xM:PySem.W.keepIn K (.ref kE)=true) (xO:Binds K mz ["values"] []):aQ P w K mg base cC 3 f fd ["thing","houses"] ud:=by
 refine F.ok jm (fun vs H Q E h=>?_) (fun cdv A outer s H vs Q E hr h=>?_)
 . obtain ⟨x,y,hs,d,rfl,_⟩:=h
   rfl
 . obtain ⟨x,y,hs,da,rfl,hda,⟨d,ws,rfl,hd,ph⟩,gh,q⟩:=h
   have mR:sizeLine=16777216:=sizeLine_eq
   have afG:=ph.length
   have h6:=gh.hi
   obtain ⟨_,⟨T',ty,kt⟩,_⟩:=hda.kind (K:=K)
   refine ⟨_,(au (dz (tX (dR (wz (aP iU rfl T.Uw PyProof.Rows.boot_isinstance (aj (pV 0) (aj (jO (v:=.ty "tuple") rfl T.tuple PyProof.Rows.boot_tuple rfl) ak))))) (pw_or1 (pN oGt (aP aY rfl T.len PySem.boot_len (aj (pV 0) ak)) (vG (v:=.int 24) rfl T.abU ⟨_,rfl⟩) (bw _)))) (aF (aW iQ)) bH) (au (dz (dR (wz (aP (j4 rfl) rfl T.all PyProof.Rows.boot_all (aj (cP (gW:=aq jc) (own:=["letter"]) (cap:=[]) (ix:=[]) rfl rfl ⟨rfl,by decide +kernel,by decide +kernel,by decide +kernel,rfl,by decide +kernel⟩ (cY (pV 0)) (fun b=>(aC (i:=0) (show (["letter"]:List Str).Nodup by decide +kernel) rfl (Or.inl rfl))) (fun b=>bZ) (fun b=>(aD Rf hr rfl Rg Rh Ri .nil aR (aj (pV 0) ak)))) ak)))) (aF (aW iQ)) bH) (au (Dy (i:=2) jm.nd rfl rfl (gW:=aq jc) (own:=["house","row","reading"]) (cap:=[]) (ix:=[]) rfl rfl ⟨rfl,by decide +kernel,by decide +kernel,by decide +kernel,rfl,by decide +kernel⟩ (cY (pV 1)) (fun b=>(aC (i:=0) (show (["house","row","reading"]:List Str).Nodup by decide +kernel) rfl (Or.inl rfl))) (fun b=>bZ) (fun b=>pK (aD xP hr rfl xQ xR xT .nil aR (aj (pV 0) ak))) (fun b=>(dU rfl (aH (aC (i:=1) (show (["house","row","reading"]:List Str).Nodup by decide +kernel) rfl (Or.inl rfl)) (aH (aC (i:=2) (show (["house","row","reading"]:List Str).Nodup by decide +kernel) rfl (Or.inl rfl)) cN)))) (fun b=>bZ) (fun b=>pV 1) (fun b=>(bR iV (pV 0) aA (fun _ _=>rfl)))) (au (iu PassesOwn.never rfl (cY (pV 0)) (dU rfl (aH (aC (i:=3) jm.nd rfl (Or.inl rfl)) (aH (aC (i:=4) jm.nd rfl (Or.inl rfl)) (aH (aC (i:=5) jm.nd rfl (Or.inl rfl)) (aH (aC (i:=6) jm.nd rfl (Or.inl rfl)) cN))))) (aF (dz (tX (vZ (zE (oh hr) (pV 3) (pV 2))) (pw_or (vZ (zE (oh hr) (pV 4) (pV 2))) (pw_or1 (pN afn (mZ (oh hr) (pV 2) (pV 3) (fun _ _=>rfl)) (mZ (oh hr) (pV 2) (pV 4) (fun _ _=>rfl)) (bw _))))) (aF (aW iQ)) bH))) (aF (aW (aD xJ hr rfl xK xM xO .nil aR (aj (cP (gW:=aq jc) (own:=["letter"]) (cap:=[]) (ix:=[]) rfl rfl ⟨rfl,by decide +kernel,by decide +kernel,by decide +kernel,rfl,by decide +kernel⟩ (cY (pV 0)) (fun b=>(aC (i:=0) (show (["letter"]:List Str).Nodup by decide +kernel) rfl (Or.inl rfl))) (fun b=>bZ) (fun b=>(cO O1 (pV 0) eY (yQ aA)))) ak)))))))),?_⟩
   refine ⟨_,_,_,_,rfl,ty,kt,?_⟩
   cases da with
   | tup xs =>
     refine aO fun dO aJ=>?_
     obtain ⟨c,vs,afH,hc,l25,r⟩:=hda.gk
     subst aJ
     subst afH
     have len:=r.len
     have q:∀ H',Same H H'->Q (.bl (decide (xs.length<=24) && (xs.all eZ && (xs.all (oA hs) && sE (xs.map keyOf))))) H':=q
     refine ⟨c,vs,rfl,.inr (bU.of hc),?_⟩
     refine iw (fun z=>?_) (fun z=>?_)
     . rw [decide_eq_false (show ¬ xs.length<=24 by have:=of_decide_eq_true z; omega)] at q
       exact q H (Same.refl H)
     rw [decide_eq_true (show xs.length<=24 by
       have:¬ (24:Int)<(vs.length:Int):=fun w=>z (decide_eq_true w)
       omega),Bool.true_and] at q
     refine ⟨c,rfl,⟨_,bU.of hc⟩,fun D hD=>comp_map (xs:=vs) (ys:=(xs.map eZ).map V.bl) hD (bU.of hc) (by omega) (by rw [List.length_map,List.length_map]; omega) (fun i x H' hx s2 b R hR=>?_) (fun H1 s1 e=>?_)⟩
     . obtain ⟨y,hy,ya⟩:=r.get hx
       exact ⟨x,y,rfl,ya.same s2,fun fP s=>hR fP _ (by rw [List.getElem?_map,List.getElem?_map,hy]; rfl) s⟩
     refine ⟨D,_,rfl,dw.of e,?_⟩
     rw [Bv]
     cases ea:xs.all eZ with
     | false=>rw [ea] at q; exact q H1 s1
     | true =>
     rw [ea,Bool.true_and] at q
     have hc1:=s1 _ _ hc
     have hd1:=s1 _ _ hd
     refine ⟨d,rfl,⟨_,bU.of hd1⟩,fun O hO=>⟨WS ws.length (PvH O hs H1),ws0 ⟨none,none,none,[],rfl,ao,Nat.zero_le _,fun n=>rfl,(Same.refl H1).upd hO⟩,fun b=>Bp (xs:=ws) _ (fun i σ H' _ hz7=>by obtain ⟨_,_,_,_,_,_,_,_,G⟩:=hz7; exact bU.of (G _ _ hd1)) (fun σ H2 hz8=>?_) (fun i x σ H' hx hi hz9=>?_)⟩⟩
     . refine aO fun dO aJ=>?_
       obtain ⟨_,_,_,kvs,_,eO,kl,ow,s2⟩:=hz8
       subst aJ
       rw [afG,List.take_length] at kl ow
       have hc2:=s2 _ _ hc1
       have S2:Same H H2:=s1.trans s2
       have WX:∀ (i:Nat) (y:Da),xs[i]?=some y->∃ s t l m,y=.tup [.str s,.str t,.int l,m]:=fun i y hy=>Eb (List.all_eq_true.mp ea y (List.mem_of_getElem? hy))
       refine ⟨c,rfl,⟨_,bU.of hc2⟩,mW (xs:=vs) (PvI c d O hs xs H2) ⟨rfl,rfl,none,none,none,none,rfl⟩ (fun i σ H' _ hz7=>by obtain ⟨e',_⟩:=hz7; rw [e']; exact bU.of hc2) (fun i x σ H' hx hz8=>?_) (fun σ H' hz9=>?_)⟩
       . refine aO fun dO aJ=>?_
         obtain ⟨e',al,o3,o4,o5,o6,eσ⟩:=hz8
         subst aJ
         have e2':=e'.symm
         subst e2' eσ
         obtain ⟨y,hy,ya⟩:=r.get hx
         refine aO fun dO aJ=>?_
         obtain ⟨s,t,l,m,afK⟩:=WX i y hy
         subst aJ
         subst afK
         refine aO fun dO aJ=>?_
         obtain ⟨a1,us,afL,g1,_,ru⟩:=(ya.same S2).gk
         subst aJ
         subst afL
         refine aO fun dO aJ=>?_
         obtain ⟨_,_,_,u4,afM,q1,q2,q3,q4⟩:=ru.four
         subst aJ
         subst afM
         cases q1
         cases q2
         cases q3
         have bad:oA hs (.tup [.str s,.str t,.int l,m])=false->Q (.bl false) H2:=fun hb=>by
           have w:=q H2 S2
           have:xs.all (oA hs)=false:=by
             rw [List.all_eq_false]
             exact ⟨_,List.mem_of_getElem? hy,by rw [hb]; decide⟩
           rw [this,Bool.false_and] at w
           exact w
         have eo:oA hs (.tup [.str s,.str t,.int l,m])=(match kW (pairsOf hs) s,kW (pairsOf hs) t with | some a,some b=>!decide (a=b) | _,_=>false):=rfl
         refine ⟨a1,_,rfl,bU.of g1,rfl,_,_,rfl,_,_,rfl,_,_,rfl,_,_,rfl,rfl,?_⟩
         refine ⟨O,_,rfl,oH.k (k:=Sum.inr s) eO,_,rfl,?_⟩
         rw [ow s]
         cases e1:kW (pairsOf hs) s with
         | none=>exact bad (by rw [eo,e1])
         | some n1 =>
           refine ⟨O,_,rfl,oH.k (k:=Sum.inr t) eO,_,rfl,?_⟩
           rw [ow t]
           cases e2:kW (pairsOf hs) t with
           | none=>exact bad (by rw [eo,e1,e2])
           | some n2 =>
             have w1:eU kvs (.inr s)=some (.str n1):=by rw [ow s,e1]; rfl
             have w2:eU kvs (.inr t)=some (.str n2):=by rw [ow t,e2]; rfl
             refine ⟨O,_,rfl,w1 ▸ oH.k (k:=Sum.inr s) eO,?_⟩
             refine ⟨O,_,rfl,w2 ▸ oH.k (k:=Sum.inr t) eO,?_⟩
             refine iw (fun z=>?_) (fun z=>?_)
             . refine bad ?_
               rw [eo,e1,e2]
               show (!decide (n1=n2))=false
               rw [z]; rfl
             . refine ⟨rfl,?_,_,_,_,_,rfl⟩
               rw [List.take_add_one,hy,List.all_append,al,Bool.true_and]
               show (oA hs _ && true)=true
               rw [eo,e1,e2,Bool.and_true]
               show (!decide (n1=n2))=true
               rw [(Bool.not_eq_true _).mp z]; rfl
       . refine aO fun dO aJ=>?_
         obtain ⟨e',al,o3,o4,o5,o6,eσ⟩:=hz9
         subst aJ
         have e2':=e'.symm
         subst e2' eσ
         rw [List.take_of_length_le (by omega)] at al
         rw [al,Bool.true_and] at q
         refine ⟨c,rfl,⟨_,bU.of hc2⟩,fun D2 hD2=>rR (xs:=vs) (PvJ D2 xs H2) ⟨[],⟨ao,Same.refl _⟩,(Same.refl H2).upd hD2,.nil⟩ (fun i H' _ Zi=>by obtain ⟨_,_,s3,_⟩:=Zi; exact bU.of (s3 _ _ hc2)) (fun H3 Zj=>?_) (fun i x H3 hx hi Zk b=>?_)⟩
         . refine aO fun dO aJ=>?_
           obtain ⟨as,G,s3,pa⟩:=Zj
           subst aJ
           have e4:(xs.map keyOf).take vs.length=xs.map keyOf:=List.take_of_length_le (by rw [List.length_map]; omega)
           rw [e4] at pa
           have l4:=pa.length
           rw [List.length_map] at l4
           refine ⟨D2,_,_,rfl,G.at',by rw [List.length_map]; omega,.inr ⟨as,xs.map keyOf,rfl,pa,rfl⟩,fun H4 s4=>?_⟩
           exact q H4 ((S2.trans s3).trans s4)
         . refine aO fun dO aJ=>?_
           obtain ⟨as,G,s3,pa⟩:=Zk
           subst aJ
           obtain ⟨y,hy,ya⟩:=r.get hx
           refine aO fun dO aJ=>?_
           obtain ⟨s,t,l,m,afN⟩:=WX i y hy
           subst aJ
           subst afN
           refine aO fun dO aJ=>?_
           obtain ⟨a1,us,afO,g1,_,ru⟩:=(ya.same (S2.trans s3)).gk
           subst aJ
           subst afO
           refine aO fun dO aJ=>?_
           obtain ⟨_,_,_,u4,afP,q1,q2,q3,q4⟩:=ru.four
           subst aJ
           subst afP
           cases q1
           cases q2
           cases q3
           have l4:=pa.length
           rw [List.length_take,List.length_map] at l4
           refine ⟨a1,_,rfl,bU.of g1,by show ¬ ((0:Nat)=0/\(2:Nat)=4); decide,fun p hp=>?_⟩
           have nD:D2≠p:=fun z=>by subst z; rw [G.at'] at hp; cases hp
           refine ⟨as.map V.ref,by rw [aL nD]; exact G.at',by rw [List.length_map]; omega,nx hi ⟨as++[p],?_,?_,?_⟩⟩
           . rw [List.map_append]; exact ⟨ao,Same.refl _⟩
           . intro b' o' e'
             rw [aL (aM e' hD2)]
             exact ((Same.refl H3).upd hp) _ _ (s3 _ _ e')
           . rw [List.take_add_one,List.getElem?_map,hy]
             refine cQ (aK (fun a k (z:H3 a=some (.tup ((kP k).map kV)))=>?_) pa) (.cons ?_ .nil)
             . have na:a≠D2:=fun y=>by subst y; rw [G.at'] at z; cases z
               rw [aL na,aL (aM z hp)]; exact z
             . rw [aL (Ne.symm nD),ao]; rfl
     . refine aO fun dO aJ=>?_
       obtain ⟨o1,o2,o3,kvs,e',eO,kl,ow,s2⟩:=hz9
       subst aJ
       subst e'
       obtain ⟨h,hh',ha⟩:=bf ph hx
       have gh1:=gh.all h (List.mem_of_getElem? hh')
       refine ⟨x,h,rfl,ha.ts (s1.trans s2).tups,gh1,fun l zs H3 hl el s3 pz=>?_⟩
       have nlO:l≠O:=fun z=>by subst z; rw [eO] at hl; cases hl
       have nd:(pairsOf (hs.take i)++cU h).map Prod.fst |>.Nodup:=by
         have z:=gh.rows
         rw [<- jC] at z
         have z2:pairsOf (hs.take (i+1))=pairsOf (hs.take i)++cU h:=by
           unfold pairsOf
           rw [List.take_add_one,hh',List.flatMap_append]
           simp
         rw [<- z2]
         have z3:(pairsOf hs)=pairsOf (hs.take (i+1))++pairsOf (hs.drop (i+1)):=by
           unfold pairsOf
           rw [<- List.flatMap_append,List.take_append_drop]
         rw [z3,List.map_append] at z
         exact (List.nodup_append.mp z).1
       refine ⟨l,rfl,⟨_,dw.of el⟩,WS zs.length (PvK x O l hs h i zs H1 H3),ws0 ⟨o2,o3,kvs,rfl,s3 _ _ eO,by simpa using kl,by simpa using ow,s2.trans s3,el,fO.refl _⟩,JK (xs:=zs) _ (fun j σ fP _ Zm=>by obtain ⟨_,_,_,_,_,_,_,_,e',_⟩:=Zm; exact dw.of e') (fun σ fP ⟨o2',o3',kvs',e',eO',kl',ow',s',_,_⟩=>nxs hi ⟨_,_,_,kvs',e',eO',?_,?_,s'⟩) (fun j y σ fP hy hj Zn=>?_)⟩
       . have z2:pairsOf (hs.take (i+1))=pairsOf (hs.take i)++cU h:=by
           unfold pairsOf
           rw [List.take_add_one,hh',List.flatMap_append]
           simp
         rw [show (cU h).take zs.length=cU h from List.take_of_length_le (by rw [pz.length]; unfold cU; rw [List.length_map]; exact Nat.le_refl _)] at kl'
         rw [z2]; exact kl'
       . have z2:pairsOf (hs.take (i+1))=pairsOf (hs.take i)++cU h:=by
           unfold pairsOf
           rw [List.take_add_one,hh',List.flatMap_append]
           simp
         rw [show (cU h).take zs.length=cU h from List.take_of_length_le (by rw [pz.length]; unfold cU; rw [List.length_map]; exact Nat.le_refl _)] at ow'
         rw [z2]; exact ow'
       . refine aO fun dO aJ=>?_
         obtain ⟨o2',o3',kvs',e',eO',kl',ow',s',el',t'⟩:=Zn
         subst aJ
         subst e'
         obtain ⟨rr,hrr,ra⟩:=bf pz hy
         obtain ⟨ra1,rfl,ra2⟩:=ra.ts t'
         have hp:(cU h)[j]?=some (rr.1,h.name):=by unfold cU; rw [List.getElem?_map,hrr]; rfl
         refine aO fun dO aJ=>?_
         obtain ⟨xa,xb,afR,xg,_⟩:=ha.ts (s1.trans s').tups
         subst aJ
         subst afR
         refine ⟨ra1,_,rfl,bU.of ra2,rfl,_,_,rfl,_,_,rfl,rfl,?_⟩
         refine eG (bU.of xg) (i:=0) (v:=.str h.name) (by rfl) ?_
         have ap:pairsOf (hs.take i)++(cU h).take (j+1)=(pairsOf (hs.take i)++(cU h).take j)++[(rr.1,h.name)]:=by
           rw [List.take_add_one,hp,List.append_assoc]; rfl
         have big:(pairsOf (hs.take i)++(cU h).take j).length<=24:=by
           have z:=gh.few
           rw [<- jC,List.length_map] at z
           have z2:(pairsOf hs)=pairsOf (hs.take i)++(cU h++pairsOf (hs.drop (i+1))):=by
             unfold pairsOf
             have e1:hs=hs.take i++(h :: hs.drop (i+1)):=by
               obtain ⟨li,fi⟩:=List.getElem?_eq_some_iff.mp hh'
               rw [<- fi,List.getElem_cons_drop,List.take_append_drop]
             conv=>lhs; rw [e1]
             rw [List.flatMap_append,List.flatMap_cons]
           rw [z2,List.length_append,List.length_append] at z
           rw [List.length_append,List.length_take]
           omega
         refine ⟨kvs',Sum.inr rr.1,eO',rfl,by omega,nxs hj ⟨_,_,_,rfl,ao,?_,?_,?_,?_,t'.put eO' (fun _ z=>nomatch z)⟩⟩
         . have z:=gB kvs' (Sum.inr rr.1) (V.str h.name)
           rw [ap,List.length_append]
           exact Nat.le_trans z (Nat.add_le_add_right kl' 1)
         . rw [ap]
           refine LK.put (p:=(rr.1,h.name)) ow' fun p hp' z=>?_
           have nd2:((pairsOf (hs.take i)++(cU h).take j)++[(rr.1,h.name)]).map Prod.fst |>.Nodup:=by
             rw [<- ap]
             refine List.Sublist.nodup ?_ nd
             exact (List.Sublist.append (List.Sublist.refl _) (List.take_sublist _ _)).map _
           rw [List.map_append] at nd2
           exact (List.nodup_append.mp nd2).2.2 p.1 (List.mem_map_of_mem hp') rr.1 (by simp) z
         . intro b' o' e'
           rw [aL (aM e' hO)]; exact s' _ _ e'
         . rw [aL nlO]; exact el'
   | _=>exact q H (Same.refl H)
theorem Mx:bx ["thing"] ["thing"] (aq pY):=⟨rfl,rfl,rfl,by decide +kernel,rfl,by decide +kernel,by decide +kernel⟩
theorem Mz {f fH xW uH:Addr} {fd gF Ad xX:FuncData} (F:lH K "is_ledger" "is_ledger" pY f fd)
   (nG:aQ P w K mg base cC 5 fH gF ["thing","many"] pU) (nH:mg "has_parts" = some (.ref fH)) (nJ:PySem.W.keepIn K (.ref fH)=true) (nM:Binds K gF ["thing","many"] [])
   (Rj:aQ P w K mg base cC 5 xW Ad ["thing"] (zP iZ)) (Rk:mg "are_houses" = some (.ref xW)) (Rm:PySem.W.keepIn K (.ref xW)=true) (Rn:Binds K Ad ["thing"] [])
   (MF:aQ P w K mg base cC 5 uH xX ["thing","houses"] ud) (MJ:mg "are_letters" = some (.ref uH)) (MK:PySem.W.keepIn K (.ref uH)=true) (MN:Binds K xX ["thing","houses"] []):aQ P w K mg base cC 6 f fd ["thing"] (zP jx):=by
 refine F.ok Mx (fun vs H Q E h=>?_) (fun cdv A outer s H vs Q E hr h=>?_)
 . obtain ⟨x,d,rfl,_⟩:=h
   rfl
 . obtain ⟨x,d,rfl,hd,q⟩:=h
   refine ⟨_,(aF (aW (oV (aD nG hr rfl nH nJ nM .nil aR (aj (pV 0) (aj aA ak))) (oV (aD Rj hr rfl Rk Rm Rn .nil aR (aj (bR iV (pV 0) aA (fun _ _=>rfl)) ak)) (oJ (aD MF hr rfl MJ MK MN .nil aR (aj (bR iV (pV 0) aA (fun _ _=>rfl)) (aj (bR iV (pV 0) aA (fun _ _=>rfl)) ak)))))))),?_⟩
   refine ⟨x,d,2,rfl,hd,?_⟩
   have no:∀ d',m8 d' 2=false->jx d'=false:=fun d' h=>by
     cases d' with
     | tup xs =>
       match xs,h with
       | [],_=>rfl
       | [_],_=>rfl
       | [_,_],h=>cases h
       | _ :: _ :: _ :: _,_=>rfl
     | _=>rfl
   cases e:m8 d 2 with
   | false =>
     have z:=q H (Same.refl H)
     rw [no d e] at z
     exact z
   | true =>
     cases d with
     | tup xs =>
       refine aO fun dO aJ=>?_
       obtain ⟨a,vs,afS,ha,Y4,r⟩:=hd.gk
       subst aJ
       subst afS
       obtain ⟨y,z,rfl⟩:=len2 (of_decide_eq_true e)
       refine aO fun dO aJ=>?_
       obtain ⟨v1,v2,afT,h1,h2⟩:=r.two
       subst aJ
       subst afT
       have q:∀ H',Same H H'->Q (.bl (iZ y && j6 (oZ y) z)) H':=q
       refine eG (bU.of ha) (i:=0) (v:=v1) (by rfl) ?_
       refine ⟨v1,y,rfl,h1,fun H1 s1=>?_⟩
       cases e1:iZ y with
       | false=>rw [e1] at q; exact q H1 s1
       | true =>
         rw [e1,Bool.true_and] at q
         have ha1:=s1 _ _ ha
         refine eG (bU.of ha1) (i:=1) (v:=v2) (by rfl) ?_
         refine eG (bU.of ha1) (i:=0) (v:=v1) (by rfl) ?_
         have gh:fu H1 v1 (oZ y)/\bA (oZ y):=by
           cases y with
           | tup ys =>
             refine aO fun dO aJ=>?_
             obtain ⟨c,ws,afU,hc,_,rr⟩:=(h1.same s1).gk
             subst aJ
             subst afU
             simp only [iZ,Bool.and_eq_true,decide_eq_true_iff] at e1
             refine aO fun dO aJ=>?_
             obtain ⟨w1,w2,w3,w4,w5,w6⟩:=e1
             subst aJ
             obtain ⟨p1,p2⟩:=uc rr w3
             exact ⟨⟨c,ws,rfl,hc,p1⟩,by show 1<=(ys.map bD).length; rw [List.length_map]; exact w1,by show (ys.map bD).length<=6; rw [List.length_map]; exact w2,p2,w4,w5,w6⟩
           | _=>cases e1
         refine ⟨v2,v1,oZ y,z,rfl,h2.same s1,gh.1,gh.2,fun H2 s2=>?_⟩
         exact q H2 (s1.trans s2)
     | _=>cases e
end
end nj
namespace nj
open PySem L2 iG
def offs (rs:List Row) (m:Str->Int):List Int:=rs.map fun r=>r.2-m r.1
def lN (rs:List Row) (d:Int) (m:Str->Int):Bool:=decide (∀ a∈offs rs m,∀ b∈offs rs m,a-b<=d)
def HX (h:aB) (m:Str->Int) (r:Row):Bool:=decide (h.low<=r.2-m r.1) && decide (r.2-m r.1<=h.high)
def oE (m:Str->Int) (p:Str × Str):Bool:=decide (1<=m p.2-m p.1)
def xY (h:aB) (m:Str->Int):Bool:=(jg h).all (HX h m) && (((bQ h).zip ((bQ h).drop 1)).all (oE m) && h.runs.all fun r=>lN r h.aN m)
def qT (m:Str->Int):List Str->Bool
 | a :: b :: r=>oE m (a,b) && qT m (b :: r)
 | _=>true
theorem J6 (m:Str->Int):∀ l:List Str,(l.zip (l.drop 1)).all (oE m)=qT m l
 | []=>rfl
 | [_]=>rfl
 | a :: b :: r=>by
   have z:=J6 m (b :: r)
   show (oE m (a,b) && ((b :: r).zip r).all (oE m))=(oE m (a,b) && qT m (b :: r))
   rw [<- z]; rfl
theorem Fb (m:Str->Int):∀ (l:List Str) (n:Str),qT m (l++[n])=(qT m l && (match l.getLast? with | none=>true | some a=>oE m (a,n)))
 | [],n=>rfl
 | [a],n=>by simp [qT]
 | a :: b :: r,n=>by
   have z:=Fb m (b :: r) n
   show (oE m (a,b) && qT m ((b :: r)++[n]))=_
   rw [z,List.getLast?_cons_cons]
   show _=(oE m (a,b) && qT m (b :: r) && _)
   rw [Bool.and_assoc]
theorem nP {h:aB} {m:Str->Int}:xY h m=true↔(∀ r∈jg h,HX h m r=true)/\qT m (bQ h)=true/\∀ r∈h.runs,lN r h.aN m=true:=by
 unfold xY
 rw [Bool.and_eq_true,Bool.and_eq_true,J6,List.all_eq_true,List.all_eq_true]
def intOf:V->Int
 | .int i=>i
 | _=>0
def iB (kvs:List (Key × V)) (n:Str):Int:=match eU kvs (.inr n) with | some v=>intOf v | none=>0
theorem Vh {kvs:List (Key × V)} {n:Str} {i:Int} (h:eU kvs (.inr n)=some (.int i)):iB kvs n=i:=by unfold iB; rw [h]; rfl
theorem Fd {kvs:List (Key × V)} {n x:Str} {i:Int}:iB (putK kvs (.inr n) (.int i)) x=if x=n then i else iB kvs x:=by
 unfold iB
 rw [rO]
 by_cases e:x=n
 . rw [if_pos e,if_pos (by rw [e])]; rfl
 . rw [if_neg e,if_neg (fun z=>e (Sum.inr.inj z))]
theorem MP {a b:List (Key × V)} {n:Str} {i:Int} (h:eU a (.inr n)=some (.int i)):iB (a++b) n=iB a n:=by
 unfold iB; rw [wZ,h]; rfl
theorem M4 {a b:List (Key × V)} {n:Str} (h:eU a (.inr n)=none):iB (a++b) n=iB b n:=by
 unfold iB; rw [wZ,h]; rfl
theorem xZ {m m':Str->Int}:∀ {l:List Str},(∀ n∈l,m n=m' n)->qT m l=qT m' l
 | [],_=>rfl
 | [_],_=>rfl
 | a :: b :: r,h=>by
   show (oE m (a,b) && qT m (b :: r))=(oE m' (a,b) && qT m' (b :: r))
   rw [xZ (l:=b :: r) fun n hn=>h n (List.mem_cons_of_mem _ hn)]
   unfold oE
   rw [h a List.mem_cons_self,h b (List.mem_cons_of_mem _ List.mem_cons_self)]
theorem Ro {m m':Str->Int} {rs:List Row} (h:∀ r∈rs,m r.1=m' r.1):offs rs m=offs rs m':=by
 unfold offs
 exact List.map_congr_left fun r hr=>by rw [h r hr]
theorem yc {m m':Str->Int} {rs:List Row} {d:Int} (h:∀ r∈rs,m r.1=m' r.1):lN rs d m=lN rs d m':=by
 unfold lN; rw [Ro h]
theorem Ae {h:aB} {m m':Str->Int} (e:∀ n∈bQ h,m n=m' n):xY h m=xY h m':=by
 rw [Bool.eq_iff_iff,nP,nP,xZ e]
 have er:∀ r∈jg h,m r.1=m' r.1:=fun r hr=>e _ (List.mem_map_of_mem hr)
 have ed:∀ r∈h.runs,lN r h.aN m=lN r h.aN m':=fun r hr=>yc fun q hq=>er q (List.mem_flatten.mpr ⟨r,hr,hq⟩)
 have e2:∀ r∈jg h,HX h m r=HX h m' r:=fun r hr=>by unfold HX; rw [er r hr]
 exact ⟨fun ⟨a,b,c⟩=>⟨fun r hr=>(e2 r hr) ▸ a r hr,b,fun r hr=>(ed r hr) ▸ c r hr⟩,fun ⟨a,b,c⟩=>⟨fun r hr=>(e2 r hr).symm ▸ a r hr,b,fun r hr=>(ed r hr).symm ▸ c r hr⟩⟩
def Gj (low wide aN off:Int) (M:Str->Int) (mo:Int) (runs:List (List Row)) (rs:List Row):Prop :=
 (∀ r∈runs.flatten++rs,low<=r.2-M r.1/\r.2-M r.1<=low+wide/\M r.1<=mo/\-20<=M r.1)/\qT M ((runs.flatten++rs).map Prod.fst)=true/\(∀ r∈runs,lN r aN M=true) /\
 ∀ r∈rs,r.2-M r.1=off∨(r.2-M r.1=off+1/\0<aN/\off+1<=low+wide)
def Cg (low wide aN off mo:Int) (rd:Int):Prop:=rd=mo+off∨(rd=mo+off+1/\0<aN/\off+1<=low+wide)
section
variable {low wide aN off mo:Int} {M:Str->Int} {runs:List (List Row)} {rs:List Row}
theorem Rp:Gj low wide aN off M mo [] []:=⟨fun r hr=>by simp at hr,rfl,fun r hr=>by simp at hr,fun r hr=>by simp at hr⟩
theorem J7 {o:Int} (h:Gj low wide aN off M mo runs []):Gj low wide aN o M mo runs []:=⟨h.1,h.2.1,h.2.2.1,fun r hr=>by simp at hr⟩
theorem Fe {Fg:Int} (h:Gj low wide aN off M mo runs rs) (l:mo<=Fg):Gj low wide aN off M Fg runs rs:=⟨fun r hr=>by have:=h.1 r hr; omega,h.2⟩
theorem Rq (h:Gj low wide aN off M mo runs rs) (d0:0<=aN):lN rs aN M=true:=by
 unfold lN offs
 refine decide_eq_true fun a ha b hb=>?_
 obtain ⟨r,hr,rfl⟩:=List.mem_map.mp ha
 obtain ⟨q,hq,rfl⟩:=List.mem_map.mp hb
 have:=h.2.2.2 r hr
 have:=h.2.2.2 q hq
 omega
theorem Rr {o:Int} (h:Gj low wide aN off M mo runs rs) (d0:0<=aN):Gj low wide aN o M mo (runs++[rs]) []:=by
 have e:(runs++[rs]).flatten++[]=runs.flatten++rs:=by simp
 refine ⟨by rw [e]; exact h.1,by rw [e]; exact h.2.1,fun r hr=>?_,fun r hr=>by simp at hr⟩
 rcases List.mem_append.mp hr with z | z
 . exact h.2.2.1 r z
 . rw [List.mem_singleton.mp z]; exact Rq h d0
theorem Zo {kvs:List (Key × V)} {n:Str} {rd Fg:Int} (h:Gj low wide aN off (iB kvs) mo runs rs) (lt:mo+1<=Fg) (l20:-20<=Fg) (nn:n ∉ (runs.flatten++rs).map Prod.fst) (ok:Cg low wide aN off Fg rd) (o0:low<=off) (o1:off<=low+wide):Gj low wide aN off (iB (putK kvs (.inr n) (.int Fg))) Fg runs (rs++[(n,rd)]):=by
 have ne:∀ r∈runs.flatten++rs,iB (putK kvs (.inr n) (.int Fg)) r.1=iB kvs r.1:=fun r hr=>by
   rw [Fd,if_neg fun z=>nn (List.mem_map.mpr ⟨r,hr,z⟩)]
 have nw:iB (putK kvs (.inr n) (.int Fg)) n=Fg:=by rw [Fd,if_pos rfl]
 generalize iB (putK kvs (.inr n) (.int Fg))=M' at ne nw
 refine ⟨fun r hr=>?_,?_,fun r hr=>?_,fun r hr=>?_⟩
 . rw [<- List.append_assoc] at hr
   rcases List.mem_append.mp hr with z | z
   . have:=h.1 r z; rw [ne r z]; omega
   . rw [List.mem_singleton.mp z]; show low<=rd-M' n/\rd-M' n<=low+wide/\M' n<=Fg/\-20<=M' n; rw [nw]; unfold Cg at ok; omega
 . rw [<- List.append_assoc,List.map_append]
   show qT M' (_++[n])=true
   rw [Fb,xZ (m':=iB kvs) (fun x hx=>by obtain ⟨r,hr,rfl⟩:=List.mem_map.mp hx; exact ne r hr),h.2.1,Bool.true_and]
   cases e:((runs.flatten++rs).map Prod.fst).getLast? with
   | none=>rfl
   | some a =>
     obtain ⟨r,hr,rfl⟩:=List.mem_map.mp (List.mem_of_getLast? e)
     have:=h.1 r hr
     show decide (1<=M' n-M' r.1)=true
     rw [nw,ne r hr]
     exact decide_eq_true (by omega)
 . rw [yc fun q hq=>ne q (List.mem_append_left _ (List.mem_flatten.mpr ⟨r,hr,hq⟩))]; exact h.2.2.1 r hr
 . rcases List.mem_append.mp hr with z | z
   . rw [ne r (List.mem_append_right _ z)]; exact h.2.2.2 r z
   . rw [List.mem_singleton.mp z]; show rd-M' n=off∨_; rw [nw]; unfold Cg at ok; omega
theorem Vi {r:Row} {d rd:Int} (h:Gj low wide aN off M mo runs rs) (hr:r∈rs) (d0:0<=d) (ok:Cg low wide aN off (mo+1+d) rd) (le:rd<=r.2):Cg low wide aN off (mo+1+d) (r.2+1):=by
 have:=h.1 r (List.mem_append_right _ hr)
 have:=h.2.2.2 r hr
 unfold Cg at ok ⊢
 omega
theorem Vj (h:Gj low wide aN off M mo runs []) (l0:-20<=low) (l1:low<=20) (w0:0<=wide) (w1:wide<=300) (m1:mo<=660):∀ r∈runs.flatten,-1000<=r.2/\r.2<=1000:=fun r hr=>by
 have:=h.1 r (List.mem_append_left _ hr)
 omega
theorem Zq {nm:Str} (h:Gj low wide aN off M mo runs []):xY ⟨nm,low,low+wide,aN,runs⟩ M=true:=by
 have e:runs.flatten++[]=runs.flatten:=by simp
 have h1:=h.1
 have h2:=h.2.1
 rw [e] at h1 h2
 refine nP.mpr ⟨fun r hr=>?_,h2,h.2.2.1⟩
 have:=h1 r hr
 unfold HX
 rw [Bool.and_eq_true]
 exact ⟨decide_eq_true this.1,decide_eq_true this.2.1⟩
end
end nj
namespace nj
open PySem L2 iG
structure GoodW (h:aB):Prop extends bL h where
 narrow:h.high-h.low<=300
 ab2:-1000<=h.low
 WY:h.high<=1000
 near:∀ r∈jg h,-1000<=r.2/\r.2<=1000
 Zr:h.aN<=1000
def uI:Sp:=fun vs H Q _=>∃ (p:Addr) (nm:Str) (ln:Addr) (ss:List Str) (room:Int),vs=[.ref p,.str nm,.ref ln,.int room]/\cB H p/\Good nm/\H ln=some (.lst (ss.map V.str))/\ss.length<=12/\ss.Nodup/\(∀ s∈ss,Good s) /\
 ∀ (r d:Addr) (hv:V) (h:aB) (kvs:List (Key × V)) (m:Nat) (H':Hp),H r=none->H d=none->H' r=some (.tup [hv,.ref d])->dI H' hv h->GoodW h->h.name=nm->bQ h=ss.take m->m<=ss.length->((m:Int)<=room∨m=0) ->
   H' d=some (.dK kvs)->kvs.map (·.1)=(ss.take m).map Sum.inr->(∀ n∈ss.take m,∃ i:Int,eU kvs (.inr n)=some (.int i))->cB H' p->bG p H H'->xY h (iB kvs)=true->Q (.ref r) H'
def Ci (mo:Int) (m i:Nat):Prop:=-20<=mo/\mo<=60+40 * (m:Int)+5 * (i:Int)
def PwA (p ln R D:Addr) (nm:Str) (room low wide aN:Int) (H:Hp) (ss:List Str):Nat->St->Hp->Prop:=fun i σ H'=>∃ (mo:Int) (m:Nat) (vr:List V) (kvs:List (Key × V)) (runs:List (List Row)) (qu tG za xr yR:Option V),σ=[some (.ref p),some (.str nm),some (.ref ln),some (.int room),some (.int low),some (.int wide),some (.int aN),some (.int mo),some (.ref R),some (.ref D),some (.int (m:Int)),qu,tG,za,xr,yR]/\HS H p R D ss room H' vr kvs runs m/\runs.flatten.map Prod.fst=ss.take m/\runs.length<=i/\Gj low wide aN 0 (iB kvs) mo runs []/\Ci mo m i
def PwB (p ln R D L:Addr) (nm:Str) (room low wide aN Hs:Int) (H:Hp) (ss:List Str) (i:Nat) (vr:List V) (runs:List (List Row)):Nat->St->Hp->Prop:=fun j σ fP=>∃ (mo:Int) (m:Nat) (kvs:List (Key × V)) (vl:List V) (rs:List Row) (xr yR:Option V),σ=[some (.ref p),some (.str nm),some (.ref ln),some (.int room),some (.int low),some (.int wide),some (.int aN),some (.int mo),some (.ref R),some (.ref D),some (.int (m:Int)),some (.int (0+(i:Int))),some (.int (low+Hs)),some (.ref L),xr,yR]/\HS H p R D ss room fP vr kvs runs m/\fP L=some (.lst vl)/\Paired (dJ fP) vl rs/\(runs.flatten++rs).map Prod.fst=ss.take m/\rs.length<=j/\(rs.map Prod.snd).Pairwise (·<·)/\Gj low wide aN (low+Hs) (iB kvs) mo runs rs/\Ci mo m i
section
variable {P:Program} {w:World} {K:PySem.W.Frag} {mg:Str->Option Value} {base:Heap} {t8 t6 tR tL:Tok}
theorem cg:bx ["_law_pack_here","_law_name","_law_names_here","_law_room","_law_low","_law_wide","_law_drift","_law_moment","_law_runs","_law_hidden","_law_at","_law_turn","_law_off","_law_rows_here","_law_step","_law_reading"] ["_law_pack_here","_law_name","_law_names_here","_law_room"] (aq mj):=⟨rfl,rfl,rfl,by decide +kernel,rfl,by decide +kernel,by decide +kernel⟩
theorem HY {f dX:Addr} {fd eN:FuncData} (F:lH K "_law_house" "_law_house" mj f fd) (T:Txt mg t8 t6 tR tL)
   (cI:aQ P w K mg base cC 1 dX eN ["_law_pack_here","_law_size"] pA) (cJ:mg "_law_take" = some (.ref dX)) (cL:PySem.W.keepIn K (.ref dX)=true) (cM:Binds K eN ["_law_pack_here","_law_size"] []):aQ P w K mg base cC 2 f fd ["_law_pack_here","_law_name","_law_names_here","_law_room"] uI:=by
 refine F.ok cg (fun vs H Q E h=>?_) (fun cdv A outer s H vs Q E hr h=>?_)
 . obtain ⟨p,nm,ln,ss,room,rfl,_⟩:=h
   rfl
 . obtain ⟨p,nm,ln,ss,room,rfl,hp,gn,Zt,few,nd,gs,q⟩:=h
   have mR:sizeLine=16777216:=sizeLine_eq
   have nln:ln≠p:=fun z=>by
     obtain ⟨n,e,_⟩:=hp
     rw [z,e] at Zt
     cases ss with
     | nil=>cases Zt
     | cons s ss=>cases Zt
   refine ⟨_,(au (aX (i:=4) cg.nd rfl (Or.inl rfl) (bK GF (aD cI hr rfl cJ cL cM .nil aR (aj (pV 0) (aj aA ak))) aA)) (au (aX (i:=5) cg.nd rfl (Or.inl rfl) (bR vK (gq (aj aA (aj aA (aj aA (aj aA ak))))) (aD cI hr rfl cJ cL cM .nil aR (aj (pV 0) (aj aA ak))) (fun _ _=>rfl))) (au (aX (i:=6) cg.nd rfl (Or.inl rfl) (bR vK (gq (aj aA (aj aA (aj aA (aj aA ak))))) (aD cI hr rfl cJ cL cM .nil aR (aj (pV 0) (aj aA ak))) (fun _ _=>rfl))) (au (aX (i:=7) cg.nd rfl (Or.inl rfl) (bK GF (aD cI hr rfl cJ cL cM .nil aR (aj (pV 0) (aj aA ak))) aA)) (au (aX (i:=8) cg.nd rfl (Or.inl rfl) (gq ak)) (au (aX (i:=9) cg.nd rfl (Or.inl rfl) wg) (au (aX (i:=10) cg.nd rfl (Or.inl rfl) aA) (au (iu PassesOwn.never rfl (iC rfl T.range (aj (aD cI hr rfl cJ cL cM .nil aR (aj (pV 0) (aj aA ak))) ak)) (aC (i:=11) cg.nd rfl (Or.inl rfl)) (au (aX (i:=12) cg.nd rfl (Or.inl rfl) (bK fZ (pV 4) (aD cI hr rfl cJ cL cM .nil aR (aj (pV 0) (aj (bK fZ (pV 5) aA) ak))))) (au (aX (i:=13) cg.nd rfl (Or.inl rfl) (gq ak)) (au (iu PassesOwn.never rfl (iC rfl T.range (aj (bK fZ aA (aD cI hr rfl cJ cL cM .nil aR (aj (pV 0) (aj aA ak)))) ak)) (aC (i:=14) cg.nd rfl (Or.inl rfl)) (aF (dz (wA (pN oLt (pV 10) (pV 3) (bw _)) (pw_and1 (pN oLt (pV 10) (aP aY rfl T.len PySem.boot_len (aj (pV 2) ak)) (bw _)))) (au (aX (i:=7) cg.nd rfl (Or.inl rfl) (bK fZ (bK fZ (pV 7) aA) (aD cI hr rfl cJ cL cM .nil aR (aj (pV 0) (aj aA ak))))) (au (aX (i:=15) cg.nd rfl (Or.inl rfl) (bK fZ (pV 7) (pV 12))) (au (dz (wA (pN (Hr hr.units) (pV 13) (gq ak) (bw _)) (pw_and (pN oLe (bK fZ (pV 12) aA) (bK fZ (pV 4) (pV 5)) (bw _)) (pw_and (pN oEq (aD cI hr rfl cJ cL cM .nil aR (aj (pV 0) (aj aA ak))) aA (bw _)) (pw_and1 (pN oGt (pV 6) aA (bw _)))))) (aF (aX (i:=15) cg.nd rfl (Or.inl rfl) (bK fZ (pV 15) aA))) bH) (au (dz (wA (pN (Hr hr.units) (pV 13) (gq ak) (bw _)) (pw_and1 (pN oLe (pV 15) (bR iV (bR vK (pV 13) (Ow Lg aA) (fun _ _=>rfl)) aA (fun _ _=>rfl)) (bw _)))) (aF (aX (i:=15) cg.nd rfl (Or.inl rfl) (bK fZ (bR iV (bR vK (pV 13) (Ow Lg aA) (fun _ _=>rfl)) aA (fun _ _=>rfl)) aA))) bH) (au (Bf (oh hr) (pV 9) (bR vK (pV 2) (pV 10) (fun _ _=>rfl)) (pV 7) rfl) (au (mV (gA PySem.F.plainAttrs_list PySem.F.slot_list_append PySem.F.type_list_append ji (pV 13) (aj (dD (aj (bR vK (pV 2) (pV 10) (fun _ _=>rfl)) (aj (pV 15) ak))) ak))) (aF (aX (i:=10) cg.nd rfl (Or.inl rfl) (bK fZ (pV 10) aA))))))))) bH))) (au (dz (pN (Hr hr.units) (pV 13) (gq ak) (bw _)) (aF (mV (gA PySem.F.plainAttrs_list PySem.F.slot_list_append PySem.F.type_list_append ji (pV 8) (aj (cZ cF rfl T.tuple PyProof.Rows.boot_tuple (aj (pV 13) ak)) ak)))) bH) (aF (aX (i:=7) cg.nd rfl (Or.inl rfl) (bK fZ (pV 7) (aD cI hr rfl cJ cL cM .nil aR (aj (pV 0) (aj aA ak))))))))))) (aF (aW (dD (aj (dD (aj (pV 1) (aj (pV 4) (aj (bK fZ (pV 4) (pV 5)) (aj (pV 6) (aj (cZ cF rfl T.tuple PyProof.Rows.boot_tuple (aj (pV 8) ak)) ak)))))) (aj (pV 9) ak))))))))))))),?_⟩
   refine gP fun U1 hU1=>?_
   refine ⟨p,41,rfl,hp,by decide,by decide,fun d1 H1 d10 d11 hp1 s1=>?_⟩
   show U1 _ _
   subst hU1
   refine gP fun U2 hU2=>?_
   refine ⟨by show 4<=sizeLine; omega,fun l1 hl1=>?_⟩
   refine ⟨p,4,rfl,hp1.new hl1,by decide,by decide,fun d2 H2 d2a d2b hp2 s2=>?_⟩
   have nl1:l1≠p:=fun z=>by obtain ⟨n,e,_⟩:=hp1; rw [<- z,hl1] at e; cases e
   obtain ⟨wide,ew,w0,w1⟩:=WM (a:=0) (b:=3) (c:=40) (e:=300) d2a d2b (by decide) (by decide) (by decide) (by decide)
   refine j5 (s2 l1 _ nl1 ao) ew ?_
   show U2 _ _
   subst hU2
   have S2:bG p H H2:=((bG.of (Same.refl H)).trans s1 |>.new hl1).trans s2
   refine gP fun U3 hU3=>?_
   refine ⟨by show 4<=sizeLine; omega,fun l2 hl2=>?_⟩
   refine ⟨p,4,rfl,hp2.new hl2,by decide,by decide,fun d3 H3 d3a d3b hp3 s3=>?_⟩
   have nl2:l2≠p:=fun z=>by obtain ⟨n,e,_⟩:=hp2; rw [<- z,hl2] at e; cases e
   obtain ⟨aN,ed,dr0,dr1⟩:=WM (a:=0) (b:=1) (c:=2) (e:=9) d3a d3b (by decide) (by decide) (by decide) (by decide)
   refine j5 (s3 l2 _ nl2 ao) ed ?_
   show U3 _ _
   subst hU3
   have S3:bG p H H3:=(S2.new hl2).trans s3
   refine gP fun U4 hU4=>?_
   refine ⟨p,60,rfl,hp3,by decide,by decide,fun d4 H4 d40 d41 J8 s4=>?_⟩
   show U4 _ _
   subst hU4
   have S4:bG p H H4:=S3.trans s4
   refine gP fun U5 hU5=>?_
   refine ⟨Nat.zero_le _,fun R hR=>?_⟩
   show U5 _ _
   subst hU5
   have nR:R≠p:=fun z=>by obtain ⟨n,e,_⟩:=J8; rw [<- z,hR] at e; cases e
   have fR:H R=none:=by
     cases e:H R with
     | none=>rfl
     | some o=>have:=S4 R o nR e; rw [hR] at this; cases this
   refine gP fun U6 hU6=>?_
   refine fun D hD=>?_
   show U6 _ _
   subst hU6
   have Zu:=J8.new (o:=.lst []) hR
   have S5:bG p H (upd H4 R (.lst [])):=S4.new hR
   have nD:D≠p:=fun z=>by obtain ⟨n,e,_⟩:=Zu; rw [<- z,hD] at e; cases e
   have nRD:R≠D:=aM ao hD
   have fD:H D=none:=by
     cases e:H D with
     | none=>rfl
     | some o=>have:=S5 D o nD e; rw [hD] at this; cases this
   have nlD:ln≠D:=aM Zt fD
   refine ⟨p,4,rfl,Zu.new hD,by decide,by decide,fun n1 H6 n1a n1b Ti s6=>?_⟩
   have S6:bG p H H6:=(S5.new hD).trans s6
   obtain ⟨low,hlow⟩:∃ low,low=d1-20:=⟨_,rfl⟩
   refine ⟨n1,rfl,by omega,by omega,lO (lo:=0) (n:=n1.toNat) (PwA p ln R D nm room low wide aN H ss) ?_ (fun i σ H' hi af6=>?_) (fun σ H' af7=>?_)⟩
   . exact ⟨_,0,[],[],[],none,none,none,none,none,by subst hlow; rfl,⟨Ti,S6,s6 R _ nR (by rw [aL nRD]; exact ao),.nil,s6 D _ nD ao,rfl,fun n hn=>by simp at hn,Nat.zero_le _,.inr rfl,fun r hr=>by simp at hr⟩,rfl,Nat.zero_le _,Rp,by unfold Ci; omega⟩
   . refine aO fun dO aJ=>?_
     obtain ⟨mo,m,vr,kvs,runs,qu,tG,za,xr,yR,eσ,S,fl,rl,fe,mb⟩:=af6
     subst aJ
     subst eσ
     refine ⟨p,wide+1,rfl,S.pack,by omega,by omega,fun Hs Ha aoI aoJ hpa sa=>?_⟩
     have Sa:=S.step nR nD hpa sa
     refine ⟨Nat.zero_le _,fun L hL=>?_⟩
     have Sb:=Sa.new (o:=.lst []) nR nD hL
     have nLp:L≠p:=fun z=>by obtain ⟨n,e,_⟩:=Sa.pack; rw [<- z,hL] at e; cases e
     have nLR:L≠R:=fun z=>by rw [z,Sa.hR] at hL; cases hL
     have nLD:L≠D:=fun z=>by rw [z,Sa.hD] at hL; cases hL
     have fL:H L=none:=by
       cases e:H L with
       | none=>rfl
       | some o=>have:=Sa.same L o nLp e; rw [hL] at this; cases this
     refine ⟨p,3,rfl,Sb.pack,by decide,by decide,fun n2 Hc n2a n2b hpc sc=>?_⟩
     have Sc:=Sb.step nR nD hpc sc
     have hLc:Hc L=some (.lst []):=sc L _ nLp ao
     refine ⟨1+n2,rfl,by omega,by omega,lO (lo:=0) (n:=(1+n2).toNat) (PwB p ln R D L nm room low wide aN Hs H ss i vr runs) ?_ (fun j σ fP hj af8=>?_) (fun σ fP af9=>?_)⟩
     . exact ⟨mo,m,kvs,[],[],_,_,rfl,Sc,hLc,.nil,by rw [List.append_nil]; exact fl,Nat.zero_le _,List.Pairwise.nil,J7 fe,mb⟩
     . refine aO fun dO aJ=>?_
       obtain ⟨mo,m,kvs,vl,rs,xr,yR,eσ,S,hL',pl,W0,rl',Zv,fe,mb⟩:=af8
       subst aJ
       subst eσ
       have gr:∀ r∈rs,Good r.1:=fun r hr=>gs r.1 (by
         have z:r.1∈ss.take m:=by rw [<- W0,List.map_append]; exact List.mem_append_right _ (List.mem_map_of_mem hr)
         exact List.mem_of_mem_take z)
       have skip:∃ (Fg:Int) (m':Nat) (kvs':List (Key × V)) (vl':List V) (rs':List Row) (aga agb:Option V),([some (.ref p),some (.str nm),some (.ref ln),some (.int room),some (.int low),some (.int wide),some (.int aN),some (.int mo),some (.ref R),some (.ref D),some (.int (m:Int)),some (.int (0+(i:Int))),some (.int (low+Hs)),some (.ref L),some (.int (0+(j:Int))),yR]:St)=[some (.ref p),some (.str nm),some (.ref ln),some (.int room),some (.int low),some (.int wide),some (.int aN),some (.int Fg),some (.ref R),some (.ref D),some (.int (m':Int)),some (.int (0+(i:Int))),some (.int (low+Hs)),some (.ref L),aga,agb] /\
         HS H p R D ss room fP vr kvs' runs m'/\fP L=some (.lst vl')/\Paired (dJ fP) vl' rs'/\(runs.flatten++rs').map Prod.fst=ss.take m'/\rs'.length<=j+1/\(rs'.map Prod.snd).Pairwise (·<·)/\Gj low wide aN (low+Hs) (iB kvs') Fg runs rs'/\Ci Fg m' i:=⟨mo,m,kvs,vl,rs,_,_,rfl,S,hL',pl,W0,Nat.le_succ_of_le rl',Zv,fe,mb⟩
       refine iw (fun c1=>?_) (fun c1=>skip)
       refine ⟨ln,_,rfl,.inl (dw.of (S.same ln _ nln Zt)),?_⟩
       refine iw (fun c2=>?_) (fun c2=>skip)
       clear skip
       have hroom:(m:Int)<room:=of_decide_eq_true c1
       have hlen:m<ss.length:=by
         have z:(m:Int)<((ss.map V.str).length:Int):=of_decide_eq_true c2
         rw [List.length_map] at z; omega
       refine aO fun Rz1 Rt=>?_
       obtain ⟨n,hn⟩:∃ n,ss[m]?=some n:=⟨ss[m],List.getElem?_eq_getElem hlen⟩
       subst Rt
       refine gP fun V1 hV1=>?_
       refine ⟨p,30,rfl,S.pack,by decide,by decide,fun d5 Hd d50 d51 hpd sd=>?_⟩
       show V1 _ _
       subst hV1
       refine gP fun V2 hV2=>?_
       show V2 _ _
       subst hV2
       have Sd:=S.step nR nD hpd sd
       have hLd:Hd L=some (.lst vl):=sd L _ nLp hL'
       have pld:Paired (dJ Hd) vl rs:=aK (fun _ _ z=>z.ts (bG.tups S.pack sd)) pl
       refine ig (NvR p ln R D L nm room low wide aN Hs (mo+1+d5) m (.int (0+(i:Int))) (.int (0+(j:Int))) H ss vr vl kvs runs rs (Cg low wide aN (low+Hs) (mo+1+d5))) (fun U hU=>?_) (fun σ2 H2 hN2=>?_)
       . have Ru:∀ (rd:Int) (H9:Hp),Cg low wide aN (low+Hs) (mo+1+d5) rd->HS H p R D ss room H9 vr kvs runs m->H9 L=some (.lst vl)->Paired (dJ H9) vl rs->U [some (.ref p),some (.str nm),some (.ref ln),some (.int room),some (.int low),some (.int wide),some (.int aN),some (.int (mo+1+d5)),some (.ref R),some (.ref D),some (.int (m:Int)),some (.int (0+(i:Int))),some (.int (low+Hs)),some (.ref L),some (.int (0+(j:Int))),some (.int rd)] H9:=fun rd H9 x0 x1 x2 x3=>hU _ _ ⟨rd,rfl,x1,x2,x3,x0⟩
         refine ⟨Nat.zero_le _,fun e1 Zw=>?_⟩
         have Se:=Sd.new (o:=.lst []) nR nD Zw
         have hLe:upd Hd e1 (.lst []) L=some (.lst vl):=(aL (aM hLd Zw)).trans hLd
         have W6:Paired (dJ (upd Hd e1 (.lst []))) vl rs:=aK (fun _ _ z=>z.ts ((fO.refl Hd).new Zw)) pld
         refine Qv hLe W6 gr ao ?_
         generalize (!rs.isEmpty)=bb
         cases bb with
         | false=>exact Ru _ _ (.inl rfl) Se hLe W6
         | true =>
           refine iw (fun k1=>?_) (fun k1=>Ru _ _ (.inl rfl) Se hLe W6)
           refine ⟨p,3,rfl,Se.pack,by decide,by decide,fun d6 Hh _ _ hph sh=>?_⟩
           have Sh:=Se.step nR nD hph sh
           have hLh:Hh L=some (.lst vl):=sh L _ nLp hLe
           have plh:Paired (dJ Hh) vl rs:=aK (fun _ _ z=>z.ts (bG.tups Se.pack sh)) W6
           exact iw (fun k2=>iw (fun k3=>Ru _ _ (.inr ⟨rfl,of_decide_eq_true k3,of_decide_eq_true k1⟩) Sh hLh plh) (fun k3=>Ru _ _ (.inl rfl) Sh hLh plh)) (fun k2=>Ru _ _ (.inl rfl) Sh hLh plh)
       refine aO fun Rz1 Rt=>?_
       obtain ⟨rd,aoQ,Sx,hLx,plx,rok⟩:=hN2
       subst Rt
       subst aoQ
       refine ig (NvR p ln R D L nm room low wide aN Hs (mo+1+d5) m (.int (0+(i:Int))) (.int (0+(j:Int))) H ss vr vl kvs runs rs (fun rd=>(∀ r∈rs,r.2<rd)/\Cg low wide aN (low+Hs) (mo+1+d5) rd)) (fun U hU=>?_) (fun σ3 H3 hN3=>?_)
       . refine ⟨Nat.zero_le _,fun fa hfa=>?_⟩
         have Sga:=Sx.new (o:=.lst []) nR nD hfa
         have M5:upd H2 fa (.lst []) L=some (.lst vl):=(aL (aM hLx hfa)).trans hLx
         have Rv:Paired (dJ (upd H2 fa (.lst []))) vl rs:=aK (fun _ _ z=>z.ts ((fO.refl _).new hfa)) plx
         refine Qv M5 Rv gr ao ?_
         rcases List.eq_nil_or_concat rs with er | ⟨rs0,Zx,er⟩
         . subst er
           exact hU _ _ ⟨_,rfl,Sga,M5,Rv,fun r hr=>by simp at hr,rok⟩
         . rw [List.concat_eq_append] at er
           have ne:(!rs.isEmpty)=true:=by rw [er]; simp
           rw [ne]
           have ab5:∃ Zy vL,vl=Zy++[vL]/\∀ Hx,Paired (dJ Hx) vl rs->dJ Hx vL Zx:=by
             have hv:vl≠[]:=fun z=>by
               have:=pl.length
               rw [z,er] at this
               simp at this
             obtain ⟨Zy,vL,ev⟩:=(List.eq_nil_or_concat vl).resolve_left hv
             rw [List.concat_eq_append] at ev
             refine ⟨Zy,vL,ev,fun Hx px=>?_⟩
             have l1:=px.length
             rw [ev,er,List.length_append,List.length_append] at l1
             have e1:vl[Zy.length]?=some vL:=by rw [ev]; simp
             obtain ⟨r,hr,ra⟩:=bf px e1
             have e2:rs[Zy.length]?=some Zx:=by
               have:Zy.length=rs0.length:=by simpa using l1
               rw [er,this]; simp
             rw [e2] at hr
             cases hr
             exact ra
           refine aO fun dO aJ=>?_
           obtain ⟨Zy,vL,evl,ab6⟩:=ab5
           obtain ⟨gaa,rfl,gba⟩:=ab6 _ Rv
           subst aJ
           have Rw:∀ rd:Int,Zx.2<rd->∀ r∈rs,r.2<rd:=fun rd h r hr=>by
             rw [er] at hr Zv
             rcases List.mem_append.mp hr with z | z
             . rw [List.map_append] at Zv
               have:=(List.pairwise_append.mp Zv).2.2 r.2 (List.mem_map_of_mem z) Zx.2 (by simp)
               omega
             . rw [List.mem_singleton.mp z]; exact h
           refine j5 M5 (i:=-1) (v:=.ref gaa) (by rw [evl]; exact Ef) ?_
           refine eG (bU.of gba) (i:=1) (v:=.int Zx.2) (by rfl) ?_
           refine iw (fun cc=>?_) (fun cc=>?_)
           . refine j5 M5 (i:=-1) (v:=.ref gaa) (by rw [evl]; exact Ef) ?_
             refine eG (bU.of gba) (i:=1) (v:=.int Zx.2) (by rfl) ?_
             exact hU _ _ ⟨_,rfl,Sga,M5,Rv,Rw _ (by omega),Vi fe (by rw [er]; simp) d50 rok (of_decide_eq_true cc)⟩
           . have cc2:¬ rd<=Zx.2:=fun z=>cc (decide_eq_true z)
             exact hU _ _ ⟨_,rfl,Sga,M5,Rv,Rw _ (by omega),rok⟩
       refine aO fun Rz1 Rt=>?_
       obtain ⟨rd,aoU,Sy,hLy,ply,lt,rok⟩:=hN3
       subst Rt
       subst aoU
       refine j5 (Sy.same ln _ nln Zt) (i:=(m:Int)) (v:=.str n) (iR (by rw [List.getElem?_map,hn]; rfl)) ?_
       refine ⟨D,_,rfl,Bd.k (k:=Sum.inr n) Sy.hD (by have z:=congrArg List.length Sy.keys; rw [List.length_map,List.length_map,List.length_take] at z; omega),?_⟩
       have hLq:upd H3 D (.dK (putK kvs (.inr n) (.int (mo+1+d5)))) L=some (.lst vl):=(aL nLD).trans hLy
       refine ⟨.inl ⟨rfl,_,dw.of hLq⟩,?_⟩
       refine j5 ((aL nlD).trans (Sy.same ln _ nln Zt)) (i:=(m:Int)) (v:=.str n) (iR (by rw [List.getElem?_map,hn]; rfl)) ?_
       refine ⟨by show 2<=sizeLine; omega,fun tp htp=>?_⟩
       obtain ⟨Sq,pq⟩:=HS.put (rd:=rd) Sy nR nD nRD nLp nLR nLD fD fL nd hn hroom hLy ply htp
       refine ⟨L,vl,_,rfl,rfl,(aL (aM hLq htp)).trans hLq,by have z:=ply.length; omega,?_⟩
       exact ⟨_,m+1,_,_,rs++[(n,rd)],_,_,rfl,Sq,ao,pq,by rw [<- List.append_assoc,List.map_append,W0,wW hn]; rfl,by rw [List.length_append]; exact Nat.add_le_add_right rl' 1,Ma Zv lt,Zo fe (by omega) (by unfold Ci at mb; omega) (fun z=>zT nd hn (W0 ▸ z)) rok (by omega) (by omega),by unfold Ci at mb ⊢; omega⟩
     . refine aO fun dO aJ=>?_
       obtain ⟨mo,m,kvs,vl,rs,xr,yR,eσ,S,hL',pl,W0,rl',Zv,fe,mb⟩:=af9
       subst aJ
       subst eσ
       have gr:∀ r∈rs,Good r.1:=fun r hr=>gs r.1 (by
         have z:r.1∈ss.take m:=by rw [<- W0,List.map_append]; exact List.mem_append_right _ (List.mem_map_of_mem hr)
         exact List.mem_of_mem_take z)
       refine ⟨Nat.zero_le _,fun e1 Zw=>?_⟩
       have Se:=S.new (o:=.lst []) nR nD Zw
       have hLe:upd fP e1 (.lst []) L=some (.lst vl):=(aL (aM hL' Zw)).trans hL'
       have W6:Paired (dJ (upd fP e1 (.lst []))) vl rs:=aK (fun _ _ z=>z.ts ((fO.refl _).new Zw)) pl
       have lr:=W6.length
       have lrr:=Se.pR.length
       refine Qv hLe W6 gr ao ?_
       refine iw (fun c1=>?_) (fun c1=>?_)
       . have rne:rs≠[]:=fun z=>by rw [z] at c1; cases c1
         refine ⟨.inl ⟨rfl,_,dw.of Se.hR⟩,?_⟩
         refine ⟨L,vl,rfl,.inl ⟨dw.of hLe,fun t9 ht9=>?_⟩⟩
         have St:=Se.new (o:=.tup vl) nR nD ht9
         refine ⟨R,vr,_,rfl,rfl,St.hR,by omega,?_⟩
         have tt:fO (upd (upd fP e1 (.lst [])) t9 (.tup vl)) (upd (upd (upd fP e1 (.lst [])) t9 (.tup vl)) R (.lst (vr++[.ref t9]))):=(fO.refl _).put St.hR (fun _ z=>nomatch z)
         have Su:HS H p R D ss room (upd (upd (upd fP e1 (.lst [])) t9 (.tup vl)) R (.lst (vr++[.ref t9]))) (vr++[.ref t9]) kvs (runs++[rs]) m:=by
           refine ⟨St.pack.put nR,fun b o hb e=>?_,ao,?_,(aL (Ne.symm nRD)).trans St.hD,St.keys,St.vals,St.le,St.rm,fun r hr=>?_⟩
           . rw [aL (aM e fR)]; exact St.same b o hb e
           . refine cQ (aK (fun _ _ z=>z.ts tt) St.pR) (.cons ⟨t9,vl,rfl,tt _ _ ao,aK (fun _ _ z=>z.ts (((fO.refl _).new ht9).trans tt)) W6⟩ .nil)
           . rcases List.mem_append.mp hr with z | z
             . exact St.good r z
             . rw [List.mem_singleton.mp z]
               exact ⟨rne,by omega,gr,Zv⟩
         refine ⟨p,5,rfl,Su.pack,by decide,by decide,fun d9 Hz d90 d91 hpz sz=>?_⟩
         exact ⟨_,m,_,kvs,runs++[rs],_,_,_,_,_,rfl,Su.step nR nD hpz sz,by rw [List.flatten_append]; simpa using W0,by rw [List.length_append]; exact Nat.add_le_add_right rl 1,Fe (Rr fe dr0) (by omega),by unfold Ci at mb ⊢; omega⟩
       . have rne:rs=[]:=by
           cases rs with
           | nil=>rfl
           | cons r rs=>exact absurd rfl c1
         subst rne
         refine ⟨p,5,rfl,Se.pack,by decide,by decide,fun d9 Hz d90 d91 hpz sz=>?_⟩
         exact ⟨_,m,_,kvs,runs,_,_,_,_,_,rfl,Se.step nR nD hpz sz,by simpa using W0,Nat.le_succ_of_le rl,Fe (J7 fe) (by omega),by unfold Ci at mb ⊢; omega⟩
   . refine aO fun dO aJ=>?_
     obtain ⟨mo,m,vr,kvs,runs,qu,tG,za,xr,yR,eσ,S,fl,rl,fe,mb⟩:=af7
     subst aJ
     subst eσ
     have lr:=S.pR.length
     refine ⟨R,vr,rfl,.inl ⟨dw.of S.hR,fun t1 h1=>?_⟩⟩
     have Sa:=S.new (o:=.tup vr) nR nD h1
     refine ⟨by show 5<=sizeLine; omega,fun t2 h2=>?_⟩
     have Sb:=Sa.new (o:=.tup [.str nm,.int low,.int (low+wide),.int aN,.ref t1]) nR nD h2
     refine ⟨by show 2<=sizeLine; omega,fun t3 h3=>?_⟩
     have Sc:=Sb.new (o:=.tup [.ref t2,.ref D]) nR nD h3
     have nt3:t3≠p:=fun z=>by obtain ⟨n,e,_⟩:=Sb.pack; rw [<- z,h3] at e; cases e
     have ft3:H t3=none:=by
       cases e:H t3 with
       | none=>rfl
       | some o=>have:=Sb.same t3 o nt3 e; rw [h3] at this; cases this
     refine q t3 D (.ref t2) ⟨nm,low,low+wide,aN,runs⟩ kvs m _ ft3 fD ao ⟨t2,.ref t1,rfl,(aL (aM ao h3)).trans ao,t1,vr,rfl,?_,Sc.pR⟩ ⟨⟨gn,by show low<=low+wide; omega,dr0,by show runs.length<=25; omega,Sc.good⟩,by show low+wide-low<=300; omega,by show -1000<=low; omega,by show low+wide<=1000; omega,Vj fe (by omega) (by omega) (by omega) (by omega) (by unfold Ci at mb; have:=Sc.le; omega),by show aN<=1000; omega⟩ rfl fl Sc.le Sc.rm Sc.hD Sc.keys Sc.vals Sc.pack Sc.same (Zq fe)
     have e1:upd (upd H' t1 (.tup vr)) t2 (.tup [.str nm,.int low,.int (low+wide),.int aN,.ref t1]) t1=some (.tup vr):=(aL (aM ao h2)).trans ao
     exact (aL (aM e1 h3)).trans e1
end
end nj
namespace nj
open PySem L2 iG
def lB (B:Int) (l:Letter):Prop:=l.2.1<=B/\∀ m,l.2.2=some m->m<=B
def Rx (hs:List aB) (M:Str->Int) (l:Letter):Prop:=m7 hs l/\lB 4100 l
def yd (hs:List aB) (M:Str->Int) (H:Hp) (kf:List (List Key × V)):Prop:=∀ kv∈kf,∃ l:Letter,kv.1=kP l.1/\dM H kv.2 l/\Rx hs M l
theorem yd.keys {hs:List aB} {M:Str->Int} {H:Hp} {kf:List (List Key × V)} (h:yd hs M H kf):∃ ks:List (Str × Str),kf.map (·.1)=ks.map kP/\ks.length=kf.length :=
 vU.keys (hs:=hs) (H:=H) fun kv hkv=>let ⟨l,a,b,c⟩:=h kv hkv; ⟨l,a,b,c.1⟩
def nQ:Sp:=fun vs H Q _=>∃ (p lh dh:Addr) (vh:List V) (hs:List aB) (kvs:List (Key × V)),vs=[.ref p,.ref lh,.ref dh]/\cB H p/\H lh=some (.lst vh)/\Paired (dI H) vh hs/\hs.length<=6/\(∀ h∈hs,bL h)/\(namesOf hs).Nodup/\(namesOf hs).length<=24 /\
 H dh=some (.dK kvs)/\kvs.map (·.1)=(namesOf hs).map Sum.inr/\(∀ n∈namesOf hs,∃ i:Int,eU kvs (.inr n)=some (.int i)/\-2000<=i/\i<=2000) /\
 ∀ (x:V) (ls:List Letter) (H':Hp),fB H' x ls->aU hs ls->(∀ l∈ls,lB 4100 l)->cB H' p->bG p H H'->Q x H'
def PwF (p lh dh O l8 F:Addr) (hs:List aB) (M:Str->Int) (H2:Hp):Nat->St->Hp->Prop:=fun i σ H'=>∃ (kf:List (List Key × V)) (o4 o5 o6 o7 qM qu tG za xr yR:Option V),σ=[some (.ref p),some (.ref lh),some (.ref dh),some (.ref O),o4,o5,o6,o7,some (.ref l8),some (.ref F),qM,qu,tG,za,xr,yR]/\cB H' p/\bG p H2 H'/\H' F=some (.dT kf)/\kf.length<=i/\yd hs M H' kf
section
variable {P:Program} {w:World} {K:PySem.W.Frag} {mg:Str->Option Value} {base:Heap} {t8 t6 tR tL:Tok}
theorem cu:bx ["_law_pack_here","_law_houses","_law_hidden","_law_home","_law_house_here","_law_run","_law_name","_law_reading","_law_rows_here","_law_found","_law_turn","_law_one","_law_other","_law_gap","_law_slack","_law_most"] ["_law_pack_here","_law_houses","_law_hidden"] (aq iz):=⟨rfl,rfl,rfl,by decide +kernel,rfl,by decide +kernel,by decide +kernel⟩
theorem Cj {f dX:Addr} {fd eN:FuncData} (F:lH K "_law_letters" "_law_letters" iz f fd) (T:Txt mg t8 t6 tR tL)
   (cI:aQ P w K mg base cC 1 dX eN ["_law_pack_here","_law_size"] pA) (cJ:mg "_law_take" = some (.ref dX)) (cL:PySem.W.keepIn K (.ref dX)=true) (cM:Binds K eN ["_law_pack_here","_law_size"] []):aQ P w K mg base cC 2 f fd ["_law_pack_here","_law_houses","_law_hidden"] nQ:=by
 refine F.ok cu (fun vs H Q E h=>?_) (fun cdv A outer s H vs Q E hr h=>?_)
 . obtain ⟨p,lh,dh,vh,hs,kvs,rfl,_⟩:=h
   rfl
 . obtain ⟨p,lh,dh,vh,hs,kvs,rfl,hp,hlh,ph,h6,gh,nd,few,hdh,keys,vals,q⟩:=h
   have mR:sizeLine=16777216:=sizeLine_eq
   have nlh:lh≠p:=fun z=>by
     obtain ⟨n,e,_⟩:=hp
     rw [z,e] at hlh
     cases ph with
     | nil=>cases hlh
     | cons h _=>obtain ⟨a,b,rfl,_⟩:=h; cases hlh
   have ndh:dh≠p:=fun z=>by obtain ⟨n,e,_⟩:=hp; rw [z,e] at hdh; cases hdh
   refine ⟨_,(au (aX (i:=3) cu.nd rfl (Or.inl rfl) wg) (au (iu PassesOwn.never rfl (pK (pV 1)) (aC (i:=4) cu.nd rfl (Or.inl rfl)) (aF (iu PassesOwn.never rfl (cY (bR iV (pV 4) aA (fun _ _=>rfl))) (aC (i:=5) cu.nd rfl (Or.inl rfl)) (aF (iu PassesOwn.never rfl (cY (pV 5)) (dU rfl (aH (aC (i:=6) cu.nd rfl (Or.inl rfl)) (aH (aC (i:=7) cu.nd rfl (Or.inl rfl)) cN))) (aF (Bf (oh hr) (pV 3) (pV 6) (bR iV (pV 4) aA (fun _ _=>rfl)) rfl))))))) (au (aX (i:=8) cu.nd rfl (Or.inl rfl) (aP (Bm rfl) rfl T.sorted PyProof.Rows.boot_sorted (aj (pV 2) ak))) (au (aX (i:=9) cu.nd rfl (Or.inr rfl) O6) (au (iu PassesOwn.never rfl (iC rfl T.range (aj (aD cI hr rfl cJ cL cM .nil aR (aj (pV 0) (aj aA ak))) ak)) (aC (i:=10) cu.nd rfl (Or.inl rfl)) (aF (dz (pN oGt (aP aY rfl T.len PySem.boot_len (aj (pV 8) ak)) aA (bw _)) (au (aX (i:=11) cu.nd rfl (Or.inl rfl) (bR vK (pV 8) (aD cI hr rfl cJ cL cM .nil aR (aj (pV 0) (aj (aP aY rfl T.len PySem.boot_len (aj (pV 8) ak)) ak))) (fun _ _=>rfl))) (au (aX (i:=12) cu.nd rfl (Or.inl rfl) (bR vK (pV 8) (aD cI hr rfl cJ cL cM .nil aR (aj (pV 0) (aj (aP aY rfl T.len PySem.boot_len (aj (pV 8) ak)) ak))) (fun _ _=>rfl))) (au (aX (i:=13) cu.nd rfl (Or.inl rfl) (bK GF (mZ (oh hr) (pV 2) (pV 12) (fun _ _=>rfl)) (mZ (oh hr) (pV 2) (pV 11) (fun _ _=>rfl)))) (au (aX (i:=14) cu.nd rfl (Or.inl rfl) (aD cI hr rfl cJ cL cM .nil aR (aj (pV 0) (aj aA ak)))) (aF (dz (wA (pN afq (mZ (oh hr) (pV 3) (pV 11) (fun _ _=>rfl)) (mZ (oh hr) (pV 3) (pV 12) (fun _ _=>rfl)) (bw _)) (pw_and1 (pN oGt (pV 13) aA (bw _)))) (au (aX (i:=15) cu.nd rfl (Or.inl rfl) (bR vK (gq (aj tK (aj (pV 13) (aj (bK fZ (pV 13) (pV 14)) ak)))) (aD cI hr rfl cJ cL cM .nil aR (aj (pV 0) (aj aA ak))) (fun _ _=>rfl))) (aF (Bf (oh hr) (pV 9) (dD (aj (pV 11) (aj (pV 12) ak))) (dD (aj (pV 11) (aj (pV 12) (aj (aP (jQ rfl) rfl T.max PyProof.Rows.boot_max (aj aA (aj (bK GF (pV 13) (pV 14)) ak))) (aj (pV 15) ak))))) rfl))) bH)))))) bH))) (aF (aW (cZ cF rfl T.tuple PyProof.Rows.boot_tuple (aj (cP (gW:=aq iz) (own:=["_law_pair"]) (cap:=["_law_found"]) (ix:=[9]) rfl rfl ⟨rfl,by decide +kernel,by decide +kernel,by decide +kernel,rfl,by decide +kernel⟩ (pK (aP (Bo rfl) rfl T.sorted PyProof.Rows.boot_sorted (aj (pV 9) ak))) (fun b=>(aC (i:=0) (show (["_law_pair","_law_found"]:List Str).Nodup by decide +kernel) rfl (Or.inl rfl))) (fun b=>bZ) (fun b=>(mZ (oh hr) (pV 1) (pV 0) (fun _ _=>rfl)))) ak))))))))),?_⟩
   refine fun O hO=>?_
   have s0:Same H (upd H O (.dK [])):=(Same.refl H).upd hO
   have agi:(pairsOf hs).length<=24:=by
     have z:=few
     rw [<- jC,List.length_map] at z
     exact z
   have ndP:((pairsOf hs).map Prod.fst).Nodup:=by rw [jC]; exact nd
   have ab8:∀ (A:List (Str × Str)) (x:Str × Str) (B:List (Str × Str)) (kv:List (Key × V)),pairsOf hs=A++x :: B->qy kv A->kv.length<=A.length->qy (putK kv (.inr x.1) (.str x.2)) (A++[x])/\(putK kv (.inr x.1) (.str x.2)).length<=(A++[x]).length/\kv.length<sizeLine:=fun A x B kv e ow kl=>by
     have l1:=agi
     rw [e,List.length_append,List.length_cons] at l1
     refine ⟨qy.put ow fun y hy z=>?_,?_,by omega⟩
     . rw [e,List.map_append,List.map_cons] at ndP
       exact (List.nodup_append.mp ndP).2.2 y.1 (List.mem_map_of_mem hy) x.1 List.mem_cons_self z
     . have z:=gB kv (.inr x.1) (V.str x.2)
       rw [List.length_append]
       exact Nat.le_trans z (Nat.add_le_add_right kl 1)
   refine ⟨lh,rfl,⟨_,dw.of (s0 _ _ hlh)⟩,Ou (xs:=vh) (PvC p lh dh O hs H) ⟨[],none,none,none,none,rfl,ao,fun x hx=>by simp [pairsOf] at hx,Nat.zero_le _,s0⟩ (fun i σ H' _ agj=>by obtain ⟨_,_,_,_,_,_,_,_,_,s⟩:=agj; exact dw.of (s _ _ hlh)) (fun i x σ H' hx Zz=>?_) (fun σ H1 ZC=>?_)⟩
   . refine aO fun dO aJ=>?_
     obtain ⟨kv,o4,o5,o6,o7,eσ,eO,ow,kl,s⟩:=Zz
     subst aJ
     subst eσ
     obtain ⟨hh,hhi,ha⟩:=bf ph hx
     have gd:=gh hh (List.mem_of_getElem? hhi)
     refine aO fun dO aJ=>?_
     obtain ⟨a,b,agk,ga,c,vr,agl,gc,pr⟩:=ha
     subst aJ
     subst agk
     subst agl
     refine eG (bU.of (s _ _ ga)) (i:=4) (v:=.ref c) (by rfl) ?_
     have e0:pairsOf hs=pairsOf (hs.take i)++(cU hh++pairsOf (hs.drop (i+1))):=by
       unfold pairsOf
       have e1:hs=hs.take i++(hh :: hs.drop (i+1)):=by
         obtain ⟨li,fi⟩:=List.getElem?_eq_some_iff.mp hhi
         rw [<- fi,List.getElem_cons_drop,List.take_append_drop]
       conv=>lhs; rw [e1]
       rw [List.flatMap_append,List.flatMap_cons]
     refine ⟨c,rfl,⟨_,bU.of (s _ _ gc)⟩,mW (xs:=vr) (PvD p lh dh O a hs hh i H) ⟨kv,o5,o6,o7,rfl,eO,by simpa using ow,by simpa using kl,s⟩ (fun j σ H' _ ZD=>by obtain ⟨_,_,_,_,_,_,_,_,s⟩:=ZD; exact bU.of (s _ _ gc)) (fun j y σ H' hy ZF=>?_) (fun σ H' ZG=>?_)⟩
     . refine aO fun dO aJ=>?_
       obtain ⟨kv,o5,o6,o7,eσ,eO,ow,kl,s⟩:=ZF
       subst aJ
       subst eσ
       refine aO fun dO aJ=>?_
       obtain ⟨r,hr',c2,ws,agm,g2,pr2⟩:=bf pr hy
       subst aJ
       subst agm
       have e1:cU hh=(hh.runs.take j).flatMap (dW hh.name)++(dW hh.name r++(hh.runs.drop (j+1)).flatMap (dW hh.name)):=by
         rw [vd]
         have e1:hh.runs=hh.runs.take j++(r :: hh.runs.drop (j+1)):=by
           obtain ⟨li,fi⟩:=List.getElem?_eq_some_iff.mp hr'
           rw [<- fi,List.getElem_cons_drop,List.take_append_drop]
         conv=>lhs; rw [e1]
         rw [List.flatMap_append,List.flatMap_cons]
       refine ⟨c2,rfl,⟨_,bU.of (s _ _ g2)⟩,mW (xs:=ws) (PvE p lh dh O a c2 hs hh i j r H) ⟨kv,o6,o7,rfl,eO,by simpa using ow,by simpa using kl,s⟩ (fun t σ H' _ ZJ=>by obtain ⟨_,_,_,_,_,_,_,s⟩:=ZJ; exact bU.of (s _ _ g2)) (fun t z σ H' hz agn=>?_) (fun σ H' ago=>?_)⟩
       . refine aO fun dO aJ=>?_
         obtain ⟨kv,o6,o7,eσ,eO,ow,kl,s⟩:=agn
         subst aJ
         subst eσ
         refine aO fun dO aJ=>?_
         obtain ⟨rr,hrr,ra1,agp,ra2⟩:=bf pr2 hz
         subst aJ
         subst agp
         have hp':(dW hh.name r)[t]?=some (rr.1,hh.name):=by unfold dW; rw [List.getElem?_map,hrr]; rfl
         refine ⟨ra1,_,rfl,bU.of (s _ _ ra2),rfl,_,_,rfl,_,_,rfl,rfl,?_⟩
         refine eG (bU.of (s _ _ ga)) (i:=0) (v:=.str hh.name) (by rfl) ?_
         have e2:dW hh.name r=(dW hh.name r).take t++((rr.1,hh.name) :: (dW hh.name r).drop (t+1)):=by
           obtain ⟨li,fi⟩:=List.getElem?_eq_some_iff.mp hp'
           rw [<- fi,List.getElem_cons_drop,List.take_append_drop]
         obtain ⟨w1,w2,w3⟩:=ab8 (pairsOf (hs.take i)++(hh.runs.take j).flatMap (dW hh.name)++(dW hh.name r).take t) (rr.1,hh.name) ((dW hh.name r).drop (t+1)++((hh.runs.drop (j+1)).flatMap (dW hh.name)++pairsOf (hs.drop (i+1)))) kv (by
           rw [e0,e1]
           conv=>lhs; rw [e2]
           simp only [List.append_assoc,List.cons_append]) ow kl
         refine ⟨O,_,rfl,Bd.k (k:=Sum.inr rr.1) eO w3,?_⟩
         refine ⟨_,_,_,rfl,ao,?_,?_,fun b' o' e'=>by rw [aL (aM e' hO)]; exact s _ _ e'⟩
         . rw [List.take_add_one,hp',<- List.append_assoc]; exact w1
         . rw [List.take_add_one,hp',<- List.append_assoc]; exact w2
       . refine aO fun dO aJ=>?_
         obtain ⟨kv,o6,o7,eσ,eO,ow,kl,s⟩:=ago
         subst aJ
         subst eσ
         have l2:=pr2.length
         have e2:(dW hh.name r).take ws.length=dW hh.name r:=List.take_of_length_le (by unfold dW; rw [List.length_map]; omega)
         rw [e2] at ow kl
         refine ⟨kv,_,_,_,rfl,eO,?_,?_,s⟩
         . rw [List.take_add_one,hr',List.flatMap_append]; simpa using ow
         . rw [List.take_add_one,hr',List.flatMap_append]; simpa using kl
     . refine aO fun dO aJ=>?_
       obtain ⟨kv,o5,o6,o7,eσ,eO,ow,kl,s⟩:=ZG
       subst aJ
       subst eσ
       rw [pr.length,List.take_length,<- vd] at ow kl
       have e2:pairsOf (hs.take (i+1))=pairsOf (hs.take i)++cU hh:=by
         unfold pairsOf
         rw [List.take_add_one,hhi,List.flatMap_append]
         simp
       exact ⟨kv,_,_,_,_,rfl,eO,by rw [e2]; exact ow,by rw [e2]; exact kl,s⟩
   . refine aO fun dO aJ=>?_
     obtain ⟨kvo,o4,o5,o6,o7,eσ,eO,ow,kl,s1⟩:=ZC
     subst aJ
     subst eσ
     rw [ph.length,List.take_length] at ow kl
     -- aau=sorted(hidden)
     refine ⟨dh,kvs,namesOf hs,rfl,s1 _ _ hdh,keys,by omega,fun l8 ss hl8 pm so=>?_⟩
     have s2:Same H1 (upd H1 l8 (.lst (ss.map V.str))):=(Same.refl H1).upd hl8
     generalize eH2:upd H1 l8 (.lst (ss.map V.str))=H2 at s2
     have h8:H2 l8=some (.lst (ss.map V.str)):=by rw [<- eH2]; exact ao
     have sH:Same H H2:=s1.trans s2
     have hp2:cB H2 p:=by obtain ⟨n,e,n0⟩:=hp; exact ⟨n,sH _ _ e,n0⟩
     refine fun F hF=>?_
     have nF:F≠p:=fun z=>by obtain ⟨n,e,_⟩:=hp2; rw [<- z,hF] at e; cases e
     have n8:l8≠p:=fun z=>by
       obtain ⟨n,e,_⟩:=hp2
       rw [<- z,h8] at e
       cases ss with
       | nil=>cases e
       | cons s ss=>cases e
     have nO:O≠p:=fun z=>by obtain ⟨n,e,_⟩:=hp2; rw [<- z,s2 _ _ eO] at e; cases e
     have lss:ss.length=(namesOf hs).length:=pm.length_eq
     have M6:∀ x∈ss,x∈namesOf hs:=fun x hx=>pm.mem_iff.mp hx
     refine ⟨p,7,rfl,hp2.new hF,by decide,by decide,fun n7 H3 n7a n7b hp3 s3=>?_⟩
     have SB3:bG p H2 H3:=((bG.of (Same.refl H2)).new hF).trans s3
     refine ⟨n7,rfl,by omega,by omega,lO (lo:=0) (n:=n7.toNat) (PwF p lh dh O l8 F hs (iB kvs) H2) ⟨[],_,_,_,_,_,_,_,_,_,_,rfl,hp3,SB3,s3 F _ nF ao,Nat.zero_le _,fun x hx=>by simp at hx⟩ (fun i σ H' hi agq=>?_) (fun σ H' agr=>?_)⟩
     . refine aO fun dO aJ=>?_
       obtain ⟨kf,o4,o5,o6,o7,qM,qu,tG,za,xr,yR,eσ,pk,sb,eF,kl,fo⟩:=agq
       subst aJ
       subst eσ
       refine ⟨l8,_,rfl,.inl (dw.of (sb l8 _ n8 h8)),?_⟩
       refine iw (fun c1=>?_) (fun c1=>⟨kf,_,_,_,_,_,_,_,_,_,_,rfl,pk,sb,eF,Nat.le_succ_of_le kl,fo⟩)
       have many:1<ss.length:=by
         have z:(1:Int)<((ss.map V.str).length:Int):=of_decide_eq_true c1
         rw [List.length_map] at z; omega
       have pick:∀ d:Int,0<=d->d<((ss.map V.str).length:Int)->∃ x,x∈ss/\Ay (ss.map V.str) d=some (.str x):=fun d d0 d1=>by
         obtain ⟨n,rfl⟩:=Int.eq_ofNat_of_zero_le d0
         rw [List.length_map] at d1
         have hn:n<ss.length:=by omega
         exact ⟨ss[n],List.getElem_mem hn,iR (by rw [List.getElem?_map,List.getElem?_eq_getElem hn]; rfl)⟩
       have Vk:(0:Int)<((ss.map V.str).length:Int)/\((ss.map V.str).length:Int)<1073741824:=by rw [List.length_map]; omega
       refine gP fun W1 hW1=>?_
       refine ⟨l8,_,rfl,.inl (dw.of (sb l8 _ n8 h8)),?_⟩
       refine ⟨p,_,rfl,pk,Vk.1,Vk.2,fun d1 Ha d1a d1b pka sa=>?_⟩
       have sba:=sb.trans sa
       obtain ⟨one,m1,e1⟩:=pick d1 d1a d1b
       refine j5 (sba l8 _ n8 h8) e1 ?_
       show W1 _ _
       subst hW1
       refine gP fun W2 hW2=>?_
       refine ⟨l8,_,rfl,.inl (dw.of (sba l8 _ n8 h8)),?_⟩
       refine ⟨p,_,rfl,pka,Vk.1,Vk.2,fun d2 Hb d2a d2b pkb W7=>?_⟩
       have sbb:=sba.trans W7
       obtain ⟨other,m2,e2⟩:=pick d2 d2a d2b
       refine j5 (sbb l8 _ n8 h8) e2 ?_
       show W2 _ _
       subst hW2
       refine gP fun W3 hW3=>?_
       obtain ⟨g2,eg2,b21,b22⟩:=vals other (M6 _ m2)
       obtain ⟨g1,eg1,b11,b12⟩:=vals one (M6 _ m1)
       have hdb:Hb dh=some (.dK kvs):=sbb dh _ ndh (sH _ _ hdh)
       refine ⟨dh,_,rfl,eg2 ▸ oH.k (k:=Sum.inr other) hdb,?_⟩
       refine ⟨dh,_,rfl,eg1 ▸ oH.k (k:=Sum.inr one) hdb,?_⟩
       show W3 _ _
       subst hW3
       refine gP fun W4 hW4=>?_
       refine ⟨p,9,rfl,pkb,by decide,by decide,fun sk Hc sk0 sk1 pkc sc=>?_⟩
       show W4 _ _
       subst hW4
       have sbc:=sbb.trans sc
       have eFc:Hc F=some (.dT kf):=(sa.trans (W7.trans sc)) F _ nF eF
       have foc:yd hs (iB kvs) Hc kf:=fun kv hkv=>by
         refine aO fun dO aJ=>?_
         obtain ⟨l,w1,w2,w3⟩:=fo kv hkv
         subst aJ
         exact ⟨l,w1,w2.ts (bG.tups pk (sa.trans (W7.trans sc))),w3⟩
       refine aO fun dO aJ=>?_
       obtain ⟨hh1,q1,q2,q3⟩:=Ei ow (M6 _ m1)
       subst aJ
       refine aO fun dO aJ=>?_
       obtain ⟨hh2,r1,r2,r3⟩:=Ei ow (M6 _ m2)
       subst aJ
       have hOc:Hc O=some (.dK kvo):=sbc O _ nO (s2 _ _ eO)
       refine ⟨O,_,rfl,q3 ▸ oH.k (k:=Sum.inr one) hOc,?_⟩
       refine ⟨O,_,rfl,r3 ▸ oH.k (k:=Sum.inr other) hOc,?_⟩
       have skip:∀ (σ:St),(∃ o4 o5 o6 o7 qM qu tG za xr yR:Option V,σ=[some (.ref p),some (.ref lh),some (.ref dh),some (.ref O),o4,o5,o6,o7,some (.ref l8),some (.ref F),qM,qu,tG,za,xr,yR])->∃ (kf:List (List Key × V)) (o4 o5 o6 o7 qM qu tG za xr yR:Option V),σ=[some (.ref p),some (.ref lh),some (.ref dh),some (.ref O),o4,o5,o6,o7,some (.ref l8),some (.ref F),qM,qu,tG,za,xr,yR]/\cB Hc p/\bG p H2 Hc/\Hc F=some (.dT kf)/\kf.length<=i+1/\yd hs (iB kvs) Hc kf:=fun σ ⟨a4,a5,a6,a7,a10,a11,a12,a13,a14,a15,e⟩=>⟨kf,a4,a5,a6,a7,a10,a11,a12,a13,a14,a15,e,pkc,sbc,eFc,Nat.le_succ_of_le kl,foc⟩
       refine iw (fun c2=>?_) (fun c2=>skip _ ⟨_,_,_,_,_,_,_,_,_,_,rfl⟩)
       have hne:hh1.name≠hh2.name:=fun z=>by
         rw [decide_eq_true z] at c2
         cases c2
       refine iw (fun c3=>?_) (fun c3=>skip _ ⟨_,_,_,_,_,_,_,_,_,_,rfl⟩)
       have apd:0<g2-g1:=of_decide_eq_true c3
       refine gP fun W5 hW5=>?_
       refine ⟨by show 3<=sizeLine; omega,fun l3 hl3=>?_⟩
       have nl3:l3≠p:=fun z=>by obtain ⟨n,e,_⟩:=pkc; rw [<- z,hl3] at e; cases e
       refine ⟨p,3,rfl,pkc.new hl3,by decide,by decide,fun d3 Hd d3a d3b pkd sd=>?_⟩
       have scd:bG p Hc Hd:=((bG.of (Same.refl Hc)).new hl3).trans sd
       obtain ⟨mo,emo,hmo⟩:∃ mo:Option Int,Ay [V.non,.int (g2-g1),.int (g2-g1+sk)] d3=some (jM mo)/\∀ m,mo=some m->g2-g1<=m/\m<=4100:=by
         obtain ⟨n,rfl⟩:=Int.eq_ofNat_of_zero_le d3a
         match n,d3b with
         | 0,_=>exact ⟨none,rfl,fun m e=>nomatch e⟩
         | 1,_=>exact ⟨some (g2-g1),rfl,fun m e=>by cases e; omega⟩
         | 2,_=>exact ⟨some (g2-g1+sk),rfl,fun m e=>by cases e; omega⟩
         | n+3,h=>exact absurd h (by omega)
       refine j5 (sd l3 _ nl3 ao) emo ?_
       show W5 _ _
       subst hW5
       refine ⟨1,g2-g1-sk,rfl,?_⟩
       obtain ⟨lst,agx,hl1,hl2⟩:∃ lst:Int,lst=(if g2-g1-sk > 1 then g2-g1-sk else 1)/\1<=lst/\lst<=g2-g1:=⟨_,rfl,by split <;> omega,by split <;> omega⟩
       rw [<- agx]
       refine ⟨by show 4<=sizeLine; omega,fun t1 ht1=>?_⟩
       refine ⟨by show 2<=sizeLine; omega,fun t2 ht2=>?_⟩
       have eFd:Hd F=some (.dT kf):=scd F _ nF eFc
       have eF1:upd Hd t1 (.tup [.str one,.str other,.int lst,jM mo]) F=some (.dT kf):=(aL (aM eFd ht1)).trans eFd
       have eF2:upd (upd Hd t1 (.tup [.str one,.str other,.int lst,jM mo])) t2 (.tup [.str one,.str other]) F=some (.dT kf):=(aL (aM eF1 ht2)).trans eF1
       refine ⟨F,_,rfl,Bd.t (k:=kP (one,other)) eF2 ao (by omega),?_⟩
       have tt:fO Hc (upd (upd (upd Hd t1 (.tup [.str one,.str other,.int lst,jM mo])) t2 (.tup [.str one,.str other])) F (.dT (putK kf (kP (one,other)) (.ref t1)))):=(((bG.tups pkc scd).new ht1).new ht2).put eF2 (fun _ z=>nomatch z)
       have et1:upd (upd (upd Hd t1 (.tup [.str one,.str other,.int lst,jM mo])) t2 (.tup [.str one,.str other])) F (.dT (putK kf (kP (one,other)) (.ref t1))) t1=some (.tup [.str one,.str other,.int lst,jM mo]):=by
         rw [aL (aM eFd ht1).symm,aL (aM ao ht2)]; exact ao
       refine ⟨_,_,_,_,_,_,_,_,_,_,_,rfl,((pkd.new ht1).new ht2).put nF,fun b o hb e=>?_,ao,?_,fun kv hkv=>?_⟩
       . have z1:=(sbc.trans scd) b o hb e
         rw [aL (aM e hF)]
         exact (((bG.of (Same.refl Hd)).new ht1).new ht2) b o hb z1
       . exact Nat.le_trans (gB kf (kP (one,other)) (.ref t1)) (Nat.add_le_add_right kl 1)
       . rcases Qw hkv with z | z
         . subst z
           exact ⟨((one,other),lst,mo),rfl,⟨t1,rfl,et1⟩,⟨wX gh (M6 _ m1),wX gh (M6 _ m2),hl1,fun m e=>by have:=(hmo m e).1; show lst<=m; omega,hh1,q1,hh2,r1,q2,r2,hne⟩,⟨by show lst<=4100; omega,fun m e=>(hmo m e).2⟩⟩
         . refine aO fun dO aJ=>?_
           obtain ⟨l,w1,w2,w3⟩:=foc kv z
           subst aJ
           exact ⟨l,w1,w2.ts tt,w3⟩
     . refine aO fun dO aJ=>?_
       obtain ⟨kf,o4,o5,o6,o7,qM,qu,tG,za,xr,yR,eσ,pk,sb,eF,kl,fo⟩:=agr
       subst aJ
       subst eσ
       obtain ⟨ks,ek,lk⟩:=fo.keys
       refine ⟨F,kf,ks,rfl,eF,ek,by omega,fun l9 as ks' hl9 pm' pw la ha=>?_⟩
       have lks:ks'.length=ks.length:=pm'.length_eq
       have s9:Same H' (upd H' l9 (.lst (as.map V.ref))):=(Same.refl H').upd hl9
       generalize eH9:upd H' l9 (.lst (as.map V.ref))=H9 at s9
       have h9:H9 l9=some (.lst (as.map V.ref)):=by rw [<- eH9]; exact ao
       refine ⟨l9,rfl,⟨_,dw.of h9⟩,fun D hD=>zH (xs:=as.map V.ref) (fun i fP=>∃ (zs:List V) (ls:List Letter),eE H9 fP D zs/\Paired (dM H9) zs ls/\ls.map Prod.fst=ks'.take i/\∀ l∈ls,Rx hs (iB kvs) l) ⟨[],[],eE.start hD,.nil,rfl,fun l hl=>by simp at hl⟩ (fun i fP _ agA=>by obtain ⟨_,_,G,_⟩:=agA; exact dw.of (G.same _ _ h9)) (fun fP agB=>?_) (fun i x fP hx hi agC b=>?_)⟩
       . refine aO fun dO aJ=>?_
         obtain ⟨zs,ls,G,pz,el,gl⟩:=agB
         subst aJ
         have lx:ks'.take (as.map V.ref).length=ks':=List.take_of_length_le (by rw [List.length_map]; omega)
         rw [lx] at el
         have l1:=congrArg List.length el
         rw [List.length_map] at l1
         have l2:=pz.length
         refine ⟨D,zs,rfl,.inl ⟨dw.of G.at',fun t ht=>?_⟩⟩
         refine q (.ref t) ls _ ⟨t,zs,rfl,ao,aK (fun _ _ z=>z.ts (G.same.tups.new ht)) pz⟩ ⟨by omega,fun l hl=>(gl l hl).1,by rw [el]; exact pw⟩ (fun l hl=>(gl l hl).2) ?_ ?_
         . obtain ⟨n,e,n0⟩:=pk
           exact (show cB fP p from ⟨n,G.same _ _ (s9 _ _ e),n0⟩).new ht
         . exact (((bG.of sH).trans (sb.trans (bG.of (s9.trans G.same)))).new ht)
       . refine aO fun dO aJ=>?_
         obtain ⟨zs,ls,G,pz,el,gl⟩:=agC
         subst aJ
         rw [List.getElem?_map] at hx
         obtain ⟨a,ea,rfl⟩:∃ a,as[i]?=some a/\x=V.ref a:=by
           cases e:as[i]? with
           | none=>rw [e] at hx; cases hx
           | some a=>rw [e] at hx; exact ⟨a,rfl,(Option.some.inj hx).symm⟩
         have li:i<ks'.length:=by rw [List.length_map] at hi; omega
         have eki:ks'[i]?=some ks'[i]:=List.getElem?_eq_getElem li
         have hka:H' a=some (.tup ((kP ks'[i]).map kV)):=ha i a _ ea eki
         have mk:kP ks'[i]∈kf.map (·.1):=by
           rw [ek]
           exact List.mem_map_of_mem (pm'.mem_iff.mp (List.getElem_mem li))
         obtain ⟨v,ev,mv⟩:=Qx mk
         refine aO fun dO aJ=>?_
         obtain ⟨l,w1,w2,w3⟩:=fo _ mv
         subst aJ
         have el1:l.1=ks'[i]:=(YH w1).symm
         have sg:Same H' fP:=s9.trans G.same
         refine ⟨F,v,rfl,ev ▸ oH.t (k:=kP ks'[i]) (sg _ _ eF) (sg _ _ hka),?_⟩
         have l2:=pz.length
         have l1:=congrArg List.length el
         rw [List.length_map,List.length_take] at l1
         refine ⟨zs,G.at',by omega,nx hi ⟨zs++[v],ls++[l],G.put hD v,cQ pz (.cons (w2.ts s9.tups) .nil),?_,fun l' hl'=>?_⟩⟩
         . rw [List.map_append,el,List.take_add_one,eki]
           show _++[l.1]=_++[ks'[i]]
           rw [el1]
         . rcases List.mem_append.mp hl' with z | z
           . exact gl l' z
           . rw [List.mem_singleton.mp z]; exact w3
end
end nj
namespace nj
open PySem L2 iG
def qU (K:PySem.W.Frag):Sp:=fun vs H Q _=>∃ (a:Addr) (ns:List Int) (k:Int),vs=[.ref a,.int k]/\dw K H a (ns.map V.int)/\(∀ n∈ns,Qo n)/\ns.length<=63/\0<=k/\k<=100/\∀ (x:V) (hs:List aB) (ls:List Letter) (H':Hp),bM H' x hs ls->bA hs->aU hs ls->(∀ z∈hs.map aB.name,z∈Qy)->(∀ h∈hs,GoodW h)->(∀ l∈ls,lB 4100 l)->Same H H'->Q x H'
def PvG (a hd ln lh dh:Addr) (k d4:Int) (ss:List Str) (H3:Hp):Nat->St->Hp->Prop:=fun i σ H'=>∃ (vh:List V) (hs:List aB) (kvs:List (Key × V)) (m:Nat) (o8 o9 qM qu:Option V),σ=[some (.ref a),some (.int k),some (.ref hd),some (.ref ln),some (.int (1+d4)),some (.ref lh),some (.ref dh),some (.int (10-(m:Int))),o8,o9,qM,qu]/\H' lh=some (.lst vh)/\Paired (dI H') vh hs/\H' dh=some (.dK kvs)/\kvs.map (·.1)=(namesOf hs).map Sum.inr/\(∀ n∈namesOf hs,∃ i:Int,eU kvs (.inr n)=some (.int i))/\namesOf hs=ss.take m/\m<=10/\hs.length=i/\hs.map aB.name=Qy.take i/\(∀ h∈hs,GoodW h)/\(∀ h∈hs,xY h (iB kvs)=true)/\Same H3 H'
section
variable {P:Program} {w:World} {K:PySem.W.Frag} {mg:Str->Option Value} {base:Heap} {t8 t6 tR tL:Tok}
theorem cT:bx ["_law_script","_law_k","_law_head","_law_names_here","_law_amount","_law_houses","_law_hidden","_law_room","_law_j","_law_rest","_law_house_here","_law_more"] ["_law_script","_law_k"] (aq jW):=⟨rfl,rfl,rfl,by decide +kernel,rfl,by decide +kernel,by decide +kernel⟩
theorem Fi {f qW Ck dX uJ pF:Addr} {fd sV Fj eN yg sW:FuncData} (F:lH K "_law_ledger" "_law_ledger" jW f fd) (T:Txt mg t8 t6 tR tL)
   (uK:aQ P w K mg base cC 2 qW sV ["_law_script","_law_k"] (Bx K)) (uL:mg "_law_pack" = some (.ref qW)) (uM:PySem.W.keepIn K (.ref qW)=true) (uN:Binds K sV ["_law_script","_law_k"] [])
   (Vl:aQ P w K mg base cC 2 Ck Fj ["_law_pack_here","_law_amount"] BL) (Vm:mg "_law_names" = some (.ref Ck)) (Vn:PySem.W.keepIn K (.ref Ck)=true) (Vo:Binds K Fj ["_law_pack_here","_law_amount"] [])
   (cI:aQ P w K mg base cC 2 dX eN ["_law_pack_here","_law_size"] pA) (cJ:mg "_law_take" = some (.ref dX)) (cL:PySem.W.keepIn K (.ref dX)=true) (cM:Binds K eN ["_law_pack_here","_law_size"] [])
   (M7:aQ P w K mg base cC 2 uJ yg ["_law_pack_here","_law_name","_law_names_here","_law_room"] uI) (M8:mg "_law_house" = some (.ref uJ)) (M9:PySem.W.keepIn K (.ref uJ)=true) (Nb:Binds K yg ["_law_pack_here","_law_name","_law_names_here","_law_room"] [])
   (Fl:aQ P w K mg base cC 2 pF sW ["_law_pack_here","_law_houses","_law_hidden"] nQ) (Fo:mg "_law_letters" = some (.ref pF)) (Fp:PySem.W.keepIn K (.ref pF)=true) (Fq:Binds K sW ["_law_pack_here","_law_houses","_law_hidden"] []):aQ P w K mg base cC 3 f fd ["_law_script","_law_k"] (qU K):=by
 refine F.ok cT (fun vs H Q E h=>?_) (fun cdv A outer s H vs Q E hr h=>?_)
 . obtain ⟨a,ns,k,rfl,_⟩:=h
   rfl
 . obtain ⟨a,ns,k,rfl,ha,hb,hl,k0,k1,q⟩:=h
   have mR:sizeLine=16777216:=sizeLine_eq
   refine ⟨_,(au (aX (i:=2) cT.nd rfl (Or.inl rfl) (aD uK hr rfl uL uM uN .nil aR (aj (pV 0) (aj (pV 1) ak)))) (au (aX (i:=3) cT.nd rfl (Or.inl rfl) (aD Vl hr rfl Vm Vn Vo .nil aR (aj (pV 2) (aj aA ak)))) (au (aX (i:=4) cT.nd rfl (Or.inl rfl) (bK fZ aA (aD cI hr rfl cJ cL cM .nil aR (aj (pV 2) (aj aA ak))))) (au (aX (i:=5) cT.nd rfl (Or.inl rfl) (gq ak)) (au (aX (i:=6) cT.nd rfl (Or.inl rfl) wg) (au (aX (i:=7) cT.nd rfl (Or.inl rfl) aA) (au (iu PassesOwn.never rfl (iC rfl T.range (aj (pV 4) ak)) (aC (i:=8) cT.nd rfl (Or.inl rfl)) (au (aX (i:=9) cT.nd rfl (Or.inl rfl) (cO mY (pV 3) (yQ (aP zG rfl T.len PySem.boot_len (aj (pV 6) ak))) (yQ aA))) (au (jZ (aD M7 hr rfl M8 M9 Nb .nil aR (aj (aD uK hr rfl uL uM uN .nil aR (aj (pV 0) (aj (bK fZ (bK fZ (pV 1) aA) (pV 8)) ak))) (aj (bR vK (gq (aj bJ (aj bJ (aj bJ (aj bJ ak))))) (pV 8) (fun _ _=>rfl)) (aj (pV 9) (aj (pV 7) ak))))) (dU rfl (aH (aC (i:=10) cT.nd rfl (Or.inl rfl)) (aH (aC (i:=11) cT.nd rfl (Or.inl rfl)) cN)))) (au (mV (gA PySem.F.plainAttrs_list PySem.F.slot_list_append PySem.F.type_list_append ji (pV 5) (aj (pV 10) ak))) (au (mV (gA PySem.F.plainAttrs_dict PySem.F.slot_dict_update PySem.F.type_dict_update Lr (pV 6) (aj (pV 11) ak))) (aF (aX (i:=7) cT.nd rfl (Or.inl rfl) (bK GF aA (aP zG rfl T.len PySem.boot_len (aj (pV 6) ak)))))))))) (aF (aW (dD (aj (cZ cF rfl T.tuple PyProof.Rows.boot_tuple (aj (pV 5) ak)) (aj (aD Fl hr rfl Fo Fp Fq .nil aR (aj (aD uK hr rfl uL uM uN .nil aR (aj (pV 0) (aj (bK fZ (pV 1) aA) ak))) (aj (pV 5) (aj (pV 6) ak)))) ak)))))))))))),?_⟩
   refine gP fun U1 hU1=>?_
   refine ⟨a,ns,k,rfl,ha,hb,hl,k0,by omega,fun hd H1 fhd pk1 s1=>?_⟩
   show U1 _ _
   subst hU1
   refine gP fun U2 hU2=>?_
   refine ⟨hd,rfl,pk1,fun ln ss H2 fln eln Oh nd gs nq pk2 W7=>?_⟩
   show U2 _ _
   subst hU2
   have S2:Same H H2:=j7 s1 fhd W7
   refine gP fun U3 hU3=>?_
   refine ⟨hd,4,rfl,pk2,by decide,by decide,fun d4 H3 d4a d4b pk3 sb3=>?_⟩
   show U3 _ _
   subst hU3
   have S3:Same H H3:=j7 S2 fhd sb3
   have agD:ln≠hd:=fun z=>by obtain ⟨n,e,_⟩:=pk1; rw [<- z,fln] at e; cases e
   have ace:H3 ln=some (.lst (ss.map V.str)):=sb3 ln _ agD eln
   refine gP fun U4 hU4=>?_
   refine ⟨Nat.zero_le _,fun lh flh=>?_⟩
   show U4 _ _
   subst hU4
   refine gP fun U5 hU5=>?_
   refine fun dh fdh=>?_
   show U5 _ _
   subst hU5
   have S4:Same H3 (upd (upd H3 lh (.lst [])) dh (.dK [])):=((Same.refl H3).upd flh).upd fdh
   have nld:lh≠dh:=aM ao fdh
   have apm:=S4 _ _ ace
   have e12:ss.length=12:=Oh
   refine ⟨1+d4,rfl,by omega,by omega,lO (lo:=0) (n:=(1+d4).toNat) (PvG a hd ln lh dh k d4 ss H3) ⟨[],[],[],0,none,none,none,none,rfl,(aL nld).trans ao,.nil,ao,rfl,fun n hn=>by simp [namesOf] at hn,rfl,by decide,rfl,rfl,fun h hh=>by simp at hh,fun h hh=>by simp at hh,S4⟩ (fun i σ H' hi agG=>?_) (fun σ H' agH=>?_)⟩
   . refine aO fun dO aJ=>?_
     obtain ⟨vh,hs,kvs,m,o8,o9,qM,qu,eσ,elh,ph,edh,keys,vals,nms,m10,lhs,hnm,gh,kh,S⟩:=agG
     subst aJ
     subst eσ
     have i4:i<4:=by omega
     have lkv:kvs.length=m:=by
       have z:=congrArg List.length keys
       rw [List.length_map,List.length_map,nms,List.length_take] at z
       omega
     have SH:Same H H':=S3.trans S
     refine ⟨dh,kvs,rfl,edh,?_⟩
     refine ⟨ln,_,rfl,dw.of (S _ _ ace),fun lr flr=>?_⟩
     have agI:jP (ss.map V.str) (some (kvs.length:Int)) (some 10)=((ss.take 10).drop m).map V.str:=by
       unfold jP
       rw [show (some 10:Option Int)=some ((10:Nat):Int) from rfl,HT.gZ,HT.gZ,List.length_map,Oh,lkv,Nat.min_eq_left (show m<=12 by omega),Nat.min_eq_left (show 10<=12 by decide),<- List.map_drop,<- List.map_take,List.drop_take]
     rw [agI]
     have s5:Same H' (upd H' lr (.lst (((ss.take 10).drop m).map V.str))):=(Same.refl H').upd flr
     generalize eH5:upd H' lr (.lst (((ss.take 10).drop m).map V.str))=H5 at s5
     have elr:H5 lr=some (.lst (((ss.take 10).drop m).map V.str)):=by rw [<- eH5]; exact ao
     have SH5:Same H H5:=SH.trans s5
     refine ⟨a,ns,k+1+(0+(i:Int)),rfl,lX SH5 ha,hb,hl,by omega,by omega,fun p H6 fp pk6 s6=>?_⟩
     refine ⟨by show 4<=sizeLine; omega,fun l4 fl4=>?_⟩
     obtain ⟨nm,enm⟩:∃ nm,Qy[i]?=some nm:=⟨Qy[i],List.getElem?_eq_getElem (show i<4 from i4)⟩
     have eat:Ay (Qy.map V.str) (0+(i:Int))=some (.str nm):=by
       rw [Int.zero_add]
       exact iR (by rw [List.getElem?_map,enm]; rfl)
     refine j5 (xs:=Qy.map V.str) ao eat ?_
     have gnm:Good nm:=Us nm (List.mem_of_getElem? enm)
     have s7:Same H5 (upd H6 l4 (.lst (Qy.map V.str))):=s6.upd fl4
     have pk7:cB (upd H6 l4 (.lst (Qy.map V.str))) p:=pk6.new fl4
     have ssl:((ss.take 10).drop m).length=10-m:=by rw [List.length_drop,List.length_take]; omega
     have sub:((ss.take 10).drop m).Sublist ss:=(List.drop_sublist _ _).trans (List.take_sublist _ _)
     refine ⟨p,nm,lr,(ss.take 10).drop m,10-(m:Int),rfl,pk7,gnm,s7 _ _ elr,by omega,sub.nodup nd,fun s hs'=>gs s (sub.subset hs'),fun r d hv hh kv m' H8 fr fd er hat ghh ehn Ia le rm ed J9 vals2 pk8 sb8 kph=>?_⟩
     have fp5:H5 p=none:=fp
     have S8:Same H5 H8:=j7 s7 fp5 sb8
     refine ⟨r,_,rfl,bU.of er,rfl,_,_,rfl,_,_,rfl,rfl,?_⟩
     have Ry:H8 lh=some (.lst vh):=S8 _ _ (s5 _ _ elh)
     have ZK:H8 dh=some (.dK kvs):=S8 _ _ (s5 _ _ edh)
     refine ⟨.inl ⟨rfl,_,dw.of Ry⟩,?_⟩
     have lv:=ph.length
     refine ⟨lh,vh,_,rfl,rfl,Ry,by omega,?_⟩
     have ndd:dh≠d:=fun z=>by
       rw [<- z] at fd
       have w:=(s7 _ _ (s5 _ _ edh))
       cases (fd.symm.trans w)
     have W8:dh≠lh:=fun z=>by rw [z,Ry] at ZK; cases ZK
     have agL:d≠lh:=fun z=>by rw [z,Ry] at ed; cases ed
     have ZL:upd H8 lh (.lst (vh++[hv])) dh=some (.dK kvs):=(aL W8).trans ZK
     have ed9:upd H8 lh (.lst (vh++[hv])) d=some (.dK kv):=(aL agL).trans ed
     have agM:kv.length=m':=by
       have z:=congrArg List.length J9
       rw [List.length_map,List.length_map,List.length_take] at z
       omega
     refine ⟨.inr (.inr (.inl ⟨rfl,.inl ⟨_,ZL⟩⟩)),?_⟩
     refine ⟨dh,d,kvs,kv,rfl,rfl,ndd,ZL,ed9,by omega,?_⟩
     have mm:m+m'<=10:=by omega
     have e10:namesOf (hs++[hh])=ss.take (m+m'):=by
       have z:namesOf (hs++[hh])=namesOf hs++bQ hh:=by unfold namesOf; rw [List.flatMap_append]; simp
       rw [z,nms,Ia,List.drop_take,List.take_take,List.take_add,Nat.min_eq_left (by omega)]
     have ndk:(ss.take (m+m')).Nodup:=(List.take_sublist _ _).nodup nd
     have ZM:ss.take (m+m')=ss.take m++((ss.take 10).drop m).take m':=by
       rw [<- e10]
       unfold namesOf
       rw [List.flatMap_append]
       have z:hs.flatMap bQ=ss.take m:=nms
       rw [z,<- Ia]; simp
     have inj:∀ l:List Str,l.Nodup->(l.map (Sum.inr:Str->Key)).Nodup:=fun l hl=>by
       rw [List.nodup_iff_pairwise_ne,List.pairwise_map]
       exact (List.nodup_iff_pairwise_ne.mp hl).imp fun h z=>h (Sum.inr.inj z)
     have acg:=inj _ ndk
     rw [ZM,List.map_append] at acg
     obtain ⟨nda,ndb,ndc⟩:=List.nodup_append.mp acg
     have emk:qF kvs kv=kvs++kv:=wY kv kvs (by rw [J9]; exact ndb) (fun x hx z=>by
       rw [J9] at hx
       rw [keys,nms] at z
       exact ndc x z x hx rfl)
     rw [emk]
     have tt:fO H8 (upd (upd H8 lh (.lst (vh++[hv]))) dh (.dK (kvs++kv))):=((fO.refl H8).put Ry (fun _ z=>nomatch z)).put ZL (fun _ z=>nomatch z)
     refine ⟨dh,_,rfl,ao,?_⟩
     refine ⟨vh++[hv],hs++[hh],kvs++kv,m+m',some (.int (0+(i:Int))),some (.ref lr),some hv,some (.ref d),?_,(aL (Ne.symm W8)).trans ao,?_,ao,?_,?_,e10,mm,by rw [List.length_append,lhs]; rfl,?_,?_,?_,?_⟩
     . have el:(10-((kvs++kv).length:Int))=10-((m+m':Nat):Int):=by rw [List.length_append,lkv,agM]
       show [_,_,_,_,_,_,_,some (V.int (10-((kvs++kv).length:Int))),_,_,_,_]=_
       rw [el]
     . refine cQ (aK (fun _ _ z=>(z.ts s5.tups).ts (S8.tups.trans tt)) ph) (.cons (hat.ts tt) .nil)
     . rw [List.map_append,keys,J9,e10,nms,ZM,List.map_append]
     . intro n hn
       rw [e10,ZM] at hn
       rw [wZ]
       rcases List.mem_append.mp hn with z | z
       . obtain ⟨v,ev⟩:=vals n (by rw [nms]; exact z)
         exact ⟨v,by rw [ev]; rfl⟩
       . obtain ⟨v,ev⟩:=vals2 n z
         refine ⟨v,?_⟩
         have no:eU kvs (.inr n)=none:=zU (fun y=>by
           rw [keys,nms] at y
           exact ndc (Sum.inr n) y (Sum.inr n) (List.mem_map_of_mem z) rfl)
         rw [no,ev]; rfl
     . rw [List.map_append,hnm,List.take_add_one,enm,<- ehn]; rfl
     . intro h hh'
       rcases List.mem_append.mp hh' with z | z
       . exact gh h z
       . rw [List.mem_singleton.mp z]; exact ghh
     . have a1:∀ n∈namesOf hs,iB (kvs++kv) n=iB kvs n:=fun n hn=>by
         obtain ⟨v,ev⟩:=vals n hn
         exact MP ev
       have a2:∀ n∈bQ hh,iB (kvs++kv) n=iB kv n:=fun n hn=>M4 (zU (fun y=>by
           rw [keys,nms] at y
           rw [Ia] at hn
           exact ndc (Sum.inr n) y (Sum.inr n) (List.mem_map_of_mem hn) rfl))
       intro h hh'
       rcases List.mem_append.mp hh' with z | z
       . rw [Ae fun n hn=>a1 n (List.mem_flatMap.mpr ⟨h,z,hn⟩)]; exact kh h z
       . rw [List.mem_singleton.mp z,Ae a2]; exact kph
     . intro b o e
       have z:=S8 _ _ (s5 _ _ (S _ _ e))
       have n1:b≠lh:=aM e flh
       have n2:b≠dh:=fun y=>by
         rw [y] at e
         have:=(aL (o:=.lst []) (Ne.symm nld)).trans e
         rw [fdh] at this; cases this
       rw [aL n2,aL n1]; exact z
   . refine aO fun dO aJ=>?_
     obtain ⟨vh,hs,kvs,m,o8,o9,qM,qu,eσ,elh,ph,edh,keys,vals,nms,m10,lhs,hnm,gh,kh,S⟩:=agH
     subst aJ
     subst eσ
     have SH:Same H H':=S3.trans S
     have lv:=ph.length
     have ln':hs.length<=4:=by omega
     refine ⟨lh,vh,rfl,.inl ⟨dw.of elh,fun t1 ft1=>?_⟩⟩
     have s5:Same H' (upd H' t1 (.tup vh)):=(Same.refl H').upd ft1
     generalize eH5:upd H' t1 (.tup vh)=H5 at s5
     have et1:H5 t1=some (.tup vh):=by rw [<- eH5]; exact ao
     refine ⟨a,ns,k+5,rfl,lX (SH.trans s5) ha,hb,hl,by omega,by omega,fun p H6 fp pk6 s6=>?_⟩
     have s56:Same H' H6:=s5.trans s6
     have ndn:(namesOf hs).Nodup:=by rw [nms]; exact (List.take_sublist _ _).nodup nd
     have ach:(namesOf hs).length<=24:=by rw [nms,List.length_take]; omega
     refine ⟨p,lh,dh,vh,hs,kvs,rfl,pk6,s56 _ _ elh,aK (fun _ _ z=>z.ts s56.tups) ph,by omega,(fun h hh=>(gh h hh).tobL),ndn,ach,s56 _ _ edh,keys,(fun n hn=>by
       obtain ⟨i,ei⟩:=vals n hn
       obtain ⟨k,hk,hn'⟩:=List.mem_flatMap.mp hn
       obtain ⟨r,hr2,rfl⟩:=List.mem_map.mp hn'
       have z:=(nP.mp (kh k hk)).1 r hr2
       unfold HX at z
       have z1:=of_decide_eq_true (Bool.and_eq_true_iff.mp z).1
       have z2:=of_decide_eq_true (Bool.and_eq_true_iff.mp z).2
       rw [Vh ei] at z1 z2
       have g:=gh k hk
       have y1:=g.ab2
       have y2:=g.WY
       have y3:=g.near r hr2
       exact ⟨i,ei,by omega,by omega⟩),fun x ls H7 lat gl kls pk7 sb7=>?_⟩
     have S7:Same H5 H7:=j7 s6 fp sb7
     refine ⟨by show 2<=sizeLine; omega,fun t ft=>?_⟩
     have S7t:Same H5 (upd H7 t (.tup [.ref t1,x])):=S7.upd ft
     refine q (.ref t) hs ls _ ⟨t,.ref t1,x,rfl,ao,⟨t1,vh,rfl,S7t _ _ et1,aK (fun _ _ z=>z.ts (s5.trans S7t).tups) ph⟩,lat.ts ((fO.refl H7).new ft)⟩ ⟨by omega,by omega,(fun h hh=>(gh h hh).tobL),by rw [hnm]; exact (List.take_sublist _ _).nodup Qz,ndn,ach⟩ gl (fun z hz=>List.mem_of_mem_take (hnm ▸ hz)) gh kls (SH.trans (s5.trans S7t))
end
end nj
namespace nj
open PySem L2 iG
def oF (B:Int) (h:aB):Prop:=-B<=h.low/\h.high<=B/\h.aN<=B/\∀ r∈jg h,-B<=r.2/\r.2<=B
theorem GoodW.W9 {h:aB} (g:GoodW h):oF 1000 h:=⟨g.ab2,g.WY,g.Zr,g.near⟩
theorem oF.mono {B:Int} {h:aB} (g:oF B h):oF (B+1000) h:=⟨by have:=g.1; omega,by have:=g.2.1; omega,by have:=g.2.2.1; omega,fun r hr=>by have:=g.2.2.2 r hr; omega⟩
theorem lB.mono {B:Int} {l:Letter} (g:lB (B+3100) l):lB (B+4100) l:=⟨by have:=g.1; omega,fun m e=>by have:=g.2 m e; omega⟩
theorem Rz {B:Int} {hs:List aB} {k:Nat} {h':aB} (nw:∀ h∈hs,oF B h) (n:oF (B+1000) h'):∀ h∈iy hs k h',oF (B+1000) h:=fun h hh=>by
 rcases lZ hh with z | z
 . exact (nw h z).mono
 . rw [z]; exact n
theorem Nf {B:Int} {ls:List Letter} {k:Nat} {l':Letter} (nw:∀ l∈ls,lB (B+3100) l) (n:lB (B+4100) l'):∀ l∈iy ls k l',lB (B+4100) l:=fun l hl=>by
 rcases lZ hl with z | z
 . exact (nw l z).mono
 . rw [z]; exact n
def Xa (B:Int) (rs:List (List Row)):Prop:=∀ r∈rs.flatten,-(B+1000)<=r.2/\r.2<=(B+1000)
theorem RB {B:Int} {rs:List (List Row)} {j:Nat} {r:List Row} {mo:Int} (hj:rs[j]?=some r) (nr:∀ q∈rs.flatten,-B<=q.2/\q.2<=B) (m1:-500<=mo) (m2:mo<=500):Xa B (iy rs j (r.map fun q=>(q.1,q.2+mo))):=fun q hq=>by
 obtain ⟨l,hl,hq⟩:=List.mem_flatten.mp hq
 rcases lZ hl with z | z
 . have:=nr q (List.mem_flatten.mpr ⟨l,z,hq⟩); omega
 . rw [z] at hq
   obtain ⟨q0,h0,rfl⟩:=List.mem_map.mp hq
   have:=nr q0 (List.mem_flatten.mpr ⟨r,List.mem_of_getElem? hj,h0⟩)
   show -(B+1000)<=q0.2+mo/\q0.2+mo<=(B+1000)
   omega
def Ib:Sp:=fun vs H Q _=>∃ (p:Addr) (x:V) (hs:List aB) (ls:List Letter) (B:Int),vs=[.ref p,x]/\cB H p/\bC H x (.tup [bN hs,bB ls])/\bA hs/\aU hs ls/\1000<=B/\(∀ h∈hs,oF B h)/\(∀ l∈ls,lB (B+3100) l) /\
 ∀ (y:V) (hs':List aB) (ls':List Letter) (H':Hp),bC H' y (.tup [bN hs',bB ls'])->bA hs'->aU hs' ls'->hs'.map aB.name=hs.map aB.name->(∀ h∈hs',oF (B+1000) h)->(∀ l∈ls',lB (B+4100) l)->cB H' p->bG p H H'->Q y H'
theorem uO {H H1:Hp} {p:Addr} (h:cB H p) (s:Same H H1):cB H1 p:=let ⟨n,e,n0⟩:=h; ⟨n,s _ _ e,n0⟩
section
variable {P:Program} {w:World} {K:PySem.W.Frag} {mg:Str->Option Value} {base:Heap} {t8 t6 tR tL:Tok}
theorem cG:bx ["_law_pack_here","_law_ledger_here","_law_houses","_law_letters_here","_law_pick","_law_more","_law_at","_law_name","_law_low","_law_high","_law_drift","_law_runs","_law_k","_law_one","_law_other","_law_least","_law_most","_law_moved","_law_house_here"] ["_law_pack_here","_law_ledger_here"] (aq xG):=⟨rfl,rfl,rfl,by decide +kernel,rfl,by decide +kernel,by decide +kernel⟩
theorem Vp {f dX:Addr} {fd eN:FuncData} (F:lH K "_law_bent" "_law_bent" xG f fd) (T:Txt mg t8 t6 tR tL)
   (cI:aQ P w K mg base cC 1 dX eN ["_law_pack_here","_law_size"] pA) (cJ:mg "_law_take" = some (.ref dX)) (cL:PySem.W.keepIn K (.ref dX)=true) (cM:Binds K eN ["_law_pack_here","_law_size"] []):aQ P w K mg base cC 2 f fd ["_law_pack_here","_law_ledger_here"] Ib:=by
 refine F.ok cG (fun vs H Q E h=>?_) (fun cdv A outer s H vs Q E hr h=>?_)
 . obtain ⟨p,x,hs,ls,B,rfl,_⟩:=h
   rfl
 . obtain ⟨p,x,hs,ls,B,rfl,hp,hx,gh,gl,hB,nw,nwl,q⟩:=h
   have mR:sizeLine=16777216:=sizeLine_eq
   have lh6:=gh.hi
   have lh1:=gh.lo
   have ZP:=gl.few
   obtain ⟨a,us,rfl,ea,_,ru⟩:=hx.gk
   obtain ⟨vh,vl,rfl,hH0,hL0⟩:=ru.two
   have hH:bC H vh (.tup (hs.map cD)):=hH0
   have hL:bC H vl (.tup (ls.map bO)):=hL0
   refine ⟨_,(YJ.h (dG (Hg (qV 1) (Br rfl (fj (gK (i:=2) cG.nd rfl (Or.inl rfl)) (fj (gK (i:=3) cG.nd rfl (Or.inl rfl)) vQ)))) (dG (jk (i:=4) cG.nd rfl (Or.inl rfl) (rU cI hr rfl cJ cL cM .nil aR (aV (qV 0) (aV eV dF)))) (dG (jk (i:=5) cG.nd rfl (Or.inr rfl) (JM ⟨vK⟩ (YK (aV eV (aV (JL ⟨Lg⟩ eV) (aV eV (aV (JL ⟨Lg⟩ eV) (aV eV (aV (JL ⟨Lg⟩ eV) (aV eV (aV (JL ⟨Lg⟩ eV) dF))))))))) (rU cI hr rfl cJ cL cM .nil aR (aV (qV 0) (aV eV dF))) (fun _ _=>rfl))) (dG (jk (i:=6) cG.nd rfl (Or.inl rfl) (rU cI hr rfl cJ cL cM .nil aR (aV (qV 0) (aV (iW ⟨aY⟩ rfl T.len PySem.boot_len (aV (qV 2) dF)) dF)))) (dG (Hg (JM ⟨iV⟩ (qV 2) (qV 6) (fun _ _=>rfl)) (Br rfl (fj (gK (i:=7) cG.nd rfl (Or.inl rfl)) (fj (gK (i:=8) cG.nd rfl (Or.inl rfl)) (fj (gK (i:=9) cG.nd rfl (Or.inl rfl)) (fj (gK (i:=10) cG.nd rfl (Or.inl rfl)) (fj (gK (i:=11) cG.nd rfl (Or.inl rfl)) vQ))))))) (dG (zN (WD (YM ⟨oGt⟩ (qV 4) eV (bw _)) (JN (YM ⟨(abG hr.Gu)⟩ (qV 3) (lJ dF) (bw _)))) (dG (jk (i:=12) cG.nd rfl (Or.inl rfl) (rU cI hr rfl cJ cL cM .nil aR (aV (qV 0) (aV (iW ⟨aY⟩ rfl T.len PySem.boot_len (aV (qV 3) dF)) dF)))) (dG (Hg (JM ⟨iV⟩ (qV 3) (qV 12) (fun _ _=>rfl)) (Br rfl (fj (gK (i:=13) cG.nd rfl (Or.inl rfl)) (fj (gK (i:=14) cG.nd rfl (Or.inl rfl)) (fj (gK (i:=15) cG.nd rfl (Or.inl rfl)) (fj (gK (i:=16) cG.nd rfl (Or.inl rfl)) vQ)))))) (dG (jk (i:=15) cG.nd rfl (Or.inl rfl) (iW ⟨(jQ rfl)⟩ rfl T.max PyProof.Rows.boot_max (aV eV (aV (jA ⟨fZ⟩ (qV 15) (qV 5)) dF)))) (dG (zN (YQ (Um (qV 16))) (m6 (jk (i:=16) cG.nd rfl (Or.inl rfl) (iW ⟨(jQ rfl)⟩ rfl T.max PyProof.Rows.boot_max (aV (qV 15) (aV (jA ⟨GF⟩ (qV 16) (jA ⟨Yp⟩ (iW ⟨Oz⟩ rfl T.abs PyProof.Rows.boot_abs (aV (qV 5) dF)) (jA ⟨GF⟩ (qV 4) eV))) dF))))) pQ) (m6 (Qf (lJ (aV (qV 2) (aV (jA ⟨rT⟩ (jA ⟨rT⟩ (lW ⟨DR⟩ (qV 3) pP (qoI (qV 12))) (lJ (aV (lJ (aV (qV 13) (aV (qV 14) (aV (qV 15) (aV (qV 16) dF))))) dF))) (lW ⟨DR⟩ (qV 3) (qoI (jA ⟨fZ⟩ (qV 12) eV)) pP)) dF))))))))) pQ) (dG (zN (YM ⟨oEq⟩ (qV 4) eV (bw _)) (m6 (jk (i:=8) cG.nd rfl (Or.inl rfl) (iW ⟨(zm rfl)⟩ rfl T.min PyProof.Rows.boot_min (aV (qV 9) (aV (jA ⟨fZ⟩ (qV 8) (qV 5)) dF))))) pQ) (dG (zN (YM ⟨oEq⟩ (qV 4) eV (bw _)) (m6 (jk (i:=9) cG.nd rfl (Or.inl rfl) (iW ⟨(jQ rfl)⟩ rfl T.max PyProof.Rows.boot_max (aV (qV 8) (aV (jA ⟨fZ⟩ (qV 9) (qV 5)) dF))))) pQ) (dG (zN (YM ⟨oEq⟩ (qV 4) eV (bw _)) (m6 (jk (i:=10) cG.nd rfl (Or.inl rfl) (iW ⟨(jQ rfl)⟩ rfl T.max PyProof.Rows.boot_max (aV eV (aV (jA ⟨fZ⟩ (qV 10) (qV 5)) dF))))) pQ) (dG (zN (WD (YM ⟨oGt⟩ (qV 4) eV (bw _)) (JN (YM ⟨(abG hr.Gu)⟩ (qV 11) (lJ dF) (bw _)))) (dG (jk (i:=12) cG.nd rfl (Or.inl rfl) (rU cI hr rfl cJ cL cM .nil aR (aV (qV 0) (aV (iW ⟨aY⟩ rfl T.len PySem.boot_len (aV (qV 11) dF)) dF)))) (dG (jk (i:=17) cG.nd rfl (Or.inl rfl) (Ly ⟨cF⟩ rfl T.tuple PyProof.Rows.boot_tuple (aV (Uk (gW:=aq xG) (own:=["_law_row","_law_reading"]) (cap:=["_law_more"]) (ix:=[5]) rfl rfl ⟨rfl,by decide +kernel,by decide +kernel,by decide +kernel,rfl,by decide +kernel⟩ (YL (JM ⟨iV⟩ (qV 11) (qV 12) (fun _ _=>rfl))) (fun b=>(Br rfl (fj (gK (i:=0) (show (["_law_row","_law_reading","_law_more"]:List Str).Nodup by decide +kernel) rfl (Or.inl rfl)) (fj (gK (i:=1) (show (["_law_row","_law_reading","_law_more"]:List Str).Nodup by decide +kernel) rfl (Or.inl rfl)) vQ)))) (fun b=>Ul) (fun b=>(lJ (aV (qV 0) (aV (jA ⟨fZ⟩ (qV 1) (qV 2)) dF))))) dF))) (m6 (jk (i:=11) cG.nd rfl (Or.inl rfl) (jA ⟨rT⟩ (jA ⟨rT⟩ (lW ⟨DR⟩ (qV 11) pP (qoI (qV 12))) (lJ (aV (qV 17) dF))) (lW ⟨DR⟩ (qV 11) (qoI (jA ⟨fZ⟩ (qV 12) eV)) pP)))))) pQ) (dG (jk (i:=18) cG.nd rfl (Or.inl rfl) (lJ (aV (qV 7) (aV (qV 8) (aV (qV 9) (aV (qV 10) (aV (qV 11) dF))))))) (m6 (Qf (lJ (aV (jA ⟨rT⟩ (jA ⟨rT⟩ (lW ⟨DR⟩ (qV 2) pP (qoI (qV 6))) (lJ (aV (qV 18) dF))) (lW ⟨DR⟩ (qV 2) (qoI (jA ⟨fZ⟩ (qV 6) eV)) pP)) (aV (qV 3) dF))))))))))))))))),?_⟩
   refine zW fun Uz Cm=>?_
   refine ⟨a,_,rfl,bU.of ea,rfl,_,_,rfl,_,_,rfl,rfl,?_⟩
   subst Cm
   show oG (qD _ _) _ _ [some (.ref p),some (.ref a),some vh,some vl,none,none,none,none,none,none,none,none,none,none,none,none,none,none,none] H
   refine zW fun Uz Cm=>?_
   refine ⟨p,6,rfl,hp,by decide,by decide,fun pk H1 pk0 pk1 hp1 sb1=>?_⟩
   have k1:=sO hp hp1 sb1
   subst Cm
   show oG (qD _ _) _ _ [some (.ref p),some (.ref a),some vh,some vl,some (.int pk),none,none,none,none,none,none,none,none,none,none,none,none,none,none] H1
   refine zW fun Uz Cm=>?_
   refine ⟨by show 8<=sizeLine; omega,fun l8 fl8=>?_⟩
   have agR:cB (upd H1 l8 (.lst ([1,-1,7,-7,60,-60,500,-500].map V.int))) p:=hp1.new fl8
   refine ⟨p,8,rfl,agR,by decide,by decide,fun mi H2 mi0 mi1 hp2 acj=>?_⟩
   have el8:H2 l8=some (.lst ([1,-1,7,-7,60,-60,500,-500].map V.int)):=acj l8 _ (fun z=>by obtain ⟨n,e,_⟩:=hp1; rw [<- z,fl8] at e; cases e) ao
   have W7:bG p H1 H2:=fun c o n z=>acj c o n (((Same.refl H1).upd fl8) c o z)
   obtain ⟨mi,rfl⟩:=Int.eq_ofNat_of_zero_le mi0
   obtain ⟨mo,emo,bmo⟩:∃ mo:Int,([1,-1,7,-7,60,-60,500,-500]:List Int)[mi]?=some mo/\-500<=mo/\mo<=500:=by
     have hi:mi<8:=by omega
     match mi,hi with
     | 0,_=>exact ⟨_,rfl,by decide,by decide⟩
     | 1,_=>exact ⟨_,rfl,by decide,by decide⟩
     | 2,_=>exact ⟨_,rfl,by decide,by decide⟩
     | 3,_=>exact ⟨_,rfl,by decide,by decide⟩
     | 4,_=>exact ⟨_,rfl,by decide,by decide⟩
     | 5,_=>exact ⟨_,rfl,by decide,by decide⟩
     | 6,_=>exact ⟨_,rfl,by decide,by decide⟩
     | 7,_=>exact ⟨_,rfl,by decide,by decide⟩
   refine j5 el8 (v:=.int mo) (iR (by rw [List.getElem?_map,emo]; rfl)) ?_
   have k2:=k1.trans (sO hp1 hp2 W7)
   have SB2:bG p H H2:=sb1.trans W7
   subst Cm
   show oG (qD _ _) _ _ [some (.ref p),some (.ref a),some vh,some vl,some (.int pk),some (.int mo),none,none,none,none,none,none,none,none,none,none,none,none,none] H2
   refine aO fun dO aJ=>?_
   obtain ⟨ch,wh,agS,ech,_,rh⟩:=hH.gk
   subst aJ
   subst agS
   have lwh:=rh.len
   rw [List.length_map] at lwh
   refine zW fun Uz Cm=>?_
   refine ⟨ch,wh,rfl,.inr (bU.of (k2.tup _ _ ech)),?_⟩
   refine ⟨p,(wh.length:Int),rfl,hp2,by omega,by omega,fun kk H3 kk0 kk1 hp3 sb3=>?_⟩
   obtain ⟨k,rfl⟩:=Int.eq_ofNat_of_zero_le kk0
   have k3:=k2.trans (sO hp2 hp3 sb3)
   have SB3:bG p H H3:=SB2.trans sb3
   have lk:k<hs.length:=by omega
   obtain ⟨h,hk⟩:∃ h,hs[k]?=some h:=⟨_,List.getElem?_eq_getElem lk⟩
   obtain ⟨vk,hvk⟩:∃ v,wh[k]?=some v:=⟨_,List.getElem?_eq_getElem (by omega)⟩
   obtain ⟨dk,hdk,avk⟩:=rh.get hvk
   rw [List.getElem?_map,hk] at hdk
   obtain rfl:cD h=dk:=Option.some.inj hdk
   have hm:=List.mem_of_getElem? hk
   have gd:=gh.all h hm
   have nwh:=nw h hm
   have nw1:=nwh.1
   have nw2:=nwh.2.1
   have nw3:=nwh.2.2.1
   have gwd:=gd.wide
   have lr:h.runs.length<=24:=QS gh hm
   subst Cm
   show oG (qD _ _) _ _ [some (.ref p),some (.ref a),some (.ref ch),some vl,some (.int pk),some (.int mo),some (.int (k:Int)),none,none,none,none,none,none,none,none,none,none,none,none] H3
   refine zW fun Uz Cm=>?_
   refine eG (bU.of (k3.tup _ _ ech)) (v:=vk) (iR hvk) ?_
   refine aO fun dO aJ=>?_
   obtain ⟨ck,uk,agT,eck,_,rk⟩:=avk.gk
   subst aJ
   subst agT
   refine aO fun dO aJ=>?_
   obtain ⟨w1,w2,w3,w4,w5,agU,hN,q2,q3,q4,hR0⟩:=rk.five
   subst aJ
   subst agU
   cases q2
   cases q3
   cases q4
   have hR:bC H w5 (.tup (h.runs.map jD)):=hR0
   refine ⟨ck,_,rfl,bU.of (k3.tup _ _ eck),rfl,_,_,rfl,_,_,rfl,_,_,rfl,_,_,rfl,_,_,rfl,rfl,?_⟩
   subst Cm
   show oG (Ar _ _ _) _ _ [some (.ref p),some (.ref a),some (.ref ch),some vl,some (.int pk),some (.int mo),some (.int (k:Int)),some w1,some (.int h.low),some (.int h.high),some (.int h.aN),some w5,none,none,none,none,none,none,none] H3
   refine ig (fun σ' H'=>σ'=[some (.ref p),some (.ref a),some (.ref ch),some vl,some (.int pk),some (.int mo),some (.int (k:Int)),some w1,some (.int h.low),some (.int h.high),some (.int h.aN),some w5,none,none,none,none,none,none,none]/\cB H' p/\Kp H H'/\bG p H H') (fun U hU=>?_) (fun σ' H4 Zz=>?_)
   . refine iw (fun c1=>?_) (fun c1=>?_)
     . refine ⟨Nat.zero_le _,fun e0 he0=>?_⟩
       refine aO fun dO aJ=>?_
       obtain ⟨cl,wl,agV,ecl,_,rl⟩:=hL.gk
       subst aJ
       subst agV
       have lwl:=rl.len
       rw [List.length_map] at lwl
       have s4:Same H3 (upd H3 e0 (.tup [])):=(Same.refl _).upd he0
       have J8:cB (upd H3 e0 (.tup [])) p:=hp3.new he0
       refine ⟨⟨cl,e0,wl,rfl,rfl,s4 _ _ (k3.tup _ _ ecl),ao,?_⟩⟩
       generalize upd H3 e0 (.tup [])=H4 at s4 J8
       have k4:Kp H H4:=k3.trans (Kp.of s4)
       have SB4:bG p H H4:=SB3.trans (bG.of s4)
       refine iw (fun c2=>?_) (fun c2=>?_)
       . have nl:0<wl.length:=by
           cases wl with
           | nil=>exact absurd c2 (by decide)
           | cons _ _=>exact Nat.succ_pos _
         refine Ek ⟨cl,wl,rfl,.inr (bU.of (k4.tup _ _ ecl)),?_⟩
         refine ⟨p,(wl.length:Int),rfl,J8,by omega,by omega,fun jj H5 jj0 jj1 Zu sb5=>?_⟩
         obtain ⟨j,rfl⟩:=Int.eq_ofNat_of_zero_le jj0
         have k5:=k4.trans (sO J8 Zu sb5)
         have SB5:bG p H H5:=SB4.trans sb5
         have lj:j<ls.length:=by omega
         obtain ⟨l,hj⟩:∃ l,ls[j]?=some l:=⟨_,List.getElem?_eq_getElem lj⟩
         obtain ⟨vj,hvj⟩:∃ v,wl[j]?=some v:=⟨_,List.getElem?_eq_getElem (by omega)⟩
         obtain ⟨dj,hdj,avj⟩:=rl.get hvj
         rw [List.getElem?_map,hj] at hdj
         obtain rfl:bO l=dj:=Option.some.inj hdj
         have gj:=gl.all l (List.mem_of_getElem? hj)
         refine Ek (eG (bU.of (k5.tup _ _ ecl)) (v:=vj) (iR hvj) ?_)
         refine aO fun dO aJ=>?_
         obtain ⟨cj,uj,agZ,ecj,_,rj⟩:=avj.gk
         subst aJ
         subst agZ
         refine aO fun dO aJ=>?_
         obtain ⟨y1,y2,y3,y4,ag0,h1,h2,q3,h4⟩:=rj.four
         subst aJ
         subst ag0
         cases q3
         refine ⟨cj,_,rfl,bU.of (k5.tup _ _ ecj),rfl,_,_,rfl,_,_,rfl,_,_,rfl,_,_,rfl,rfl,?_⟩
         refine zW fun Uz Cm=>?_
         refine ⟨1,l.2.1+mo,rfl,?_⟩
         obtain ⟨le,ele,ge⟩:∃ le:Int,le=(if l.2.1+mo > 1 then l.2.1+mo else 1)/\1<=le:=⟨_,rfl,by split <;> omega⟩
         rw [<- ele]
         have fin:∀ (vm:V) (mm:Option Int) (H6:Hp),Same H5 H6->bC H6 vm (pB mm)->(∀ m,mm=some m->le<=m/\m<=(B+4100))->Xr (Ax (oM (tV 2) (oM (Jm Qe (Jm Qe (X8 SlA (tV 3) mX (wC (tV 12))) (Ax (oM (Ax (oM (tV 13) (oM (tV 14) (oM (tV 15) (oM (tV 16) Gv))))) Gv))) (X8 SlA (tV 3) (wC (Jm (fI fun i j=>.int (i+j)) (tV 12) (tC (.int 1)))) mX)) Gv))) ⟨fun _ _=>False,Q,fun _ _=>False,fun _ _=>False⟩ [some (.ref p),some (.ref a),some (.ref ch),some (.ref cl),some (.int pk),some (.int mo),some (.int (k:Int)),some w1,some (.int h.low),some (.int h.high),some (.int h.aN),some w5,some (.int (j:Int)),some y1,some y2,some (.int le),some vm,none,none] H6:=fun vm mm H6 s6 hmo hge=>by
           refine TD.use (σ:=[some (.ref p),some (.ref a),some (.ref ch),some (.ref cl),some (.int pk),some (.int mo),some (.int (k:Int)),some w1,some (.int h.low),some (.int h.high),some (.int h.aN),some w5,some (.int (j:Int)),some y1,some y2,some (.int le),some vm,none,none]) (te:=Ax _) (pD (cV (J0 (hH.kp (k5.trans (Kp.of s6)))) (cV (uh (uh (QM (k:=j) (QK (hL.kp (k5.trans (Kp.of s6)))) (zV (BP (.int _)))) (pD (cV (pD (cV (Y9 (h1.kp (k5.trans (Kp.of s6)))) (cV (Za (h2.kp (k5.trans (Kp.of s6)))) (cV (Zb (.int _)) (cV (Zc hmo) kZ)))) (by exact Nat.le_of_ble_eq_true rfl)) kZ) (by exact Nat.le_of_ble_eq_true rfl)) (by simp only [List.length_append,List.length_map,List.length_take,List.length_drop,List.length_cons,List.length_nil]; omega)) (BW (k:=(j+1)) (QK (hL.kp (k5.trans (Kp.of s6)))) (zV (BR (BP (.int _))))) (by simp only [List.length_append,List.length_map,List.length_take,List.length_drop,List.length_cons,List.length_nil]; omega)) kZ)) (by exact Nat.le_of_ble_eq_true rfl)) (Same.refl _) fun v H7 s7 hv=>?_
           refine q v hs (iy ls j ((l.1.1,l.1.2),le,mm)) H7 ?_ gh (Hw gl hj rfl ge (fun m e=>(hge m e).1)) rfl (fun h2 hh2=>(nw h2 hh2).mono) (Nf nwl ⟨by have:=(nwl l (List.mem_of_getElem? hj)).1; show le<=(B+4100); rw [ele]; split <;> omega,fun m e=>(hge m e).2⟩) (uO Zu (s6.trans s7)) (SB5.trans (bG.of (s6.trans s7)))
           have e:bB (iy ls j ((l.1.1,l.1.2),le,mm))=.tup ((ls.map bO).take j++[.tup [.str l.1.1,.str l.1.2,.int le,pB mm]]++(ls.map bO).drop (j+1)):=by
             unfold bB iy
             rw [List.map_append,List.map_append,List.map_take,List.map_drop]
             rfl
           rw [e]
           exact hv
         subst Cm
         show oG (Ar _ _ _) _ _ [some (.ref p),some (.ref a),some (.ref ch),some (.ref cl),some (.int pk),some (.int mo),some (.int (k:Int)),some w1,some (.int h.low),some (.int h.high),some (.int h.aN),some w5,some (.int (j:Int)),some y1,some y2,some (.int le),some y4,none,none] H5
         refine ig (fun σ' H'=>∃ (vm:V) (mm:Option Int),σ'=[some (.ref p),some (.ref a),some (.ref ch),some (.ref cl),some (.int pk),some (.int mo),some (.int (k:Int)),some w1,some (.int h.low),some (.int h.high),some (.int h.aN),some w5,some (.int (j:Int)),some y1,some y2,some (.int le),some vm,none,none]/\H'=H5/\bC H5 vm (pB mm)/\∀ m,mm=some m->le<=m/\m<=(B+4100)) (fun U hU=>?_) (fun σ' H' ZC=>?_)
         . have ev:=El h4
           subst ev
           cases em:l.2.2 with
           | none =>
             refine ⟨_,rfl,?_⟩
             refine hU _ _ ⟨.non,none,rfl,rfl,.non,fun m z=>by cases z⟩
           | some mv =>
             refine ⟨_,rfl,?_⟩
             refine ⟨mo,rfl,?_⟩
             refine ⟨.inl ⟨by split <;> omega,by split <;> omega⟩,?_⟩
             refine ⟨_,_,rfl,?_⟩
             refine hU _ _ ⟨.int _,some _,rfl,rfl,.int _,fun m z=>?_⟩
             cases z
             have nl1:=(nwl l (List.mem_of_getElem? hj)).1
             have nl2:=(nwl l (List.mem_of_getElem? hj)).2 mv em
             have le5:le<=(B+4100):=by rw [ele]; split <;> omega
             have pos:0<=(if mo<0 then -mo else mo) * (pk-4):=Int.mul_nonneg (by split <;> omega) (by have z:(3:Int)<pk:=of_decide_eq_true c1; omega)
             generalize (if mo<0 then -mo else mo) * (pk-4)=pr at pos ⊢
             constructor <;> split <;> omega
         . refine aO fun dO aJ=>?_
           obtain ⟨vm,mm,eσ,eH,hvm,hge⟩:=ZC
           subst aJ
           subst eσ eH
           exact fin vm mm _ (Same.refl _) hvm hge
       . exact hU _ _ ⟨rfl,J8,k4,SB4⟩
     . exact hU _ _ ⟨rfl,hp3,k3,SB3⟩
   refine aO fun dO aJ=>?_
   obtain ⟨eσ,J8,k4,SB4⟩:=Zz
   subst aJ
   subst eσ
   show oG (Ar _ _ _) _ _ [some (.ref p),some (.ref a),some (.ref ch),some vl,some (.int pk),some (.int mo),some (.int (k:Int)),some w1,some (.int h.low),some (.int h.high),some (.int h.aN),some w5,none,none,none,none,none,none,none] H4
   refine ig (fun σ' H'=>∃ lo:Int,σ'=[some (.ref p),some (.ref a),some (.ref ch),some vl,some (.int pk),some (.int mo),some (.int (k:Int)),some w1,some (.int lo),some (.int h.high),some (.int h.aN),some w5,none,none,none,none,none,none,none]/\lo<=h.high/\-(B+1000)<=lo/\H'=H4) (fun U hU=>?_) (fun σ' H' ZD=>?_)
   . refine iw (fun c=>?_) (fun c=>?_)
     . refine ⟨h.high,h.low+mo,rfl,?_⟩
       exact hU _ _ ⟨_,rfl,by split <;> omega,by split <;> omega,rfl⟩
     . exact hU _ _ ⟨_,rfl,gd.wide,by omega,rfl⟩
   refine aO fun dO aJ=>?_
   obtain ⟨lo,eσ,hlo,nlo,eH⟩:=ZD
   subst aJ
   subst eσ eH
   refine ig (fun σ' fP=>∃ hi:Int,σ'=[some (.ref p),some (.ref a),some (.ref ch),some vl,some (.int pk),some (.int mo),some (.int (k:Int)),some w1,some (.int lo),some (.int hi),some (.int h.aN),some w5,none,none,none,none,none,none,none]/\lo<=hi/\hi<=(B+1000)/\fP=H') (fun U hU=>?_) (fun σ' fP ZF=>?_)
   . refine iw (fun c=>?_) (fun c=>?_)
     . refine ⟨lo,h.high+mo,rfl,?_⟩
       exact hU _ _ ⟨_,rfl,by split <;> omega,by split <;> omega,rfl⟩
     . exact hU _ _ ⟨_,rfl,hlo,by omega,rfl⟩
   refine aO fun dO aJ=>?_
   obtain ⟨hi,eσ,hhi,nhi,eH⟩:=ZF
   subst aJ
   subst eσ eH
   have gdr:=gd.aN
   refine ig (fun σ' H3=>∃ dr:Int,σ'=[some (.ref p),some (.ref a),some (.ref ch),some vl,some (.int pk),some (.int mo),some (.int (k:Int)),some w1,some (.int lo),some (.int hi),some (.int dr),some w5,none,none,none,none,none,none,none]/\0<=dr/\dr<=(B+1000)/\H3=fP) (fun U hU=>?_) (fun σ' H5 ZG=>?_)
   . refine iw (fun c=>?_) (fun c=>?_)
     . refine ⟨0,h.aN+mo,rfl,?_⟩
       exact hU _ _ ⟨_,rfl,by split <;> omega,by split <;> omega,rfl⟩
     . exact hU _ _ ⟨_,rfl,gdr,by omega,rfl⟩
   refine aO fun dO aJ=>?_
   obtain ⟨dr,eσ,hdr,ndr,eH⟩:=ZG
   subst aJ
   subst eσ eH
   refine ig (fun σ' H'=>∃ (vr:V) (rs:List (List Row)) (tG o17:Option V),σ'=[some (.ref p),some (.ref a),some (.ref ch),some vl,some (.int pk),some (.int mo),some (.int (k:Int)),some w1,some (.int lo),some (.int hi),some (.int dr),some vr,tG,none,none,none,none,o17,none]/\bC H' vr (.tup (rs.map jD))/\(∀ r∈rs,iY r)/\rs.flatten.map Prod.fst=h.runs.flatten.map Prod.fst/\rs.length=h.runs.length/\Kp H H'/\bG p H H'/\cB H' p/\Xa B rs) (fun U hU=>?_) (fun σ' H6 ZJ=>?_)
   . refine iw (fun c1=>?_) (fun c1=>?_)
     . refine ⟨Nat.zero_le _,fun e0 he0=>?_⟩
       refine aO fun dO aJ=>?_
       obtain ⟨cr,wr,ag2,ecr,_,rr⟩:=hR.gk
       subst aJ
       subst ag2
       have lwr:=rr.len
       rw [List.length_map] at lwr
       have s6:Same H5 (upd H5 e0 (.tup [])):=(Same.refl _).upd he0
       have Ti:cB (upd H5 e0 (.tup [])) p:=J8.new he0
       refine ⟨⟨cr,e0,wr,rfl,rfl,s6 _ _ (k4.tup _ _ ecr),ao,?_⟩⟩
       generalize upd H5 e0 (.tup [])=H6 at s6 Ti
       have k6:Kp H H6:=k4.trans (Kp.of s6)
       have SB6:bG p H H6:=SB4.trans (bG.of s6)
       refine iw (fun c2=>?_) (fun c2=>?_)
       . have nl:0<wr.length:=by
           cases wr with
           | nil=>exact absurd c2 (by decide)
           | cons _ _=>exact Nat.succ_pos _
         refine Ek ⟨cr,wr,rfl,.inr (bU.of (k6.tup _ _ ecr)),?_⟩
         refine ⟨p,(wr.length:Int),rfl,Ti,by omega,by omega,fun jj H7 jj0 jj1 hp7 sb7=>?_⟩
         obtain ⟨j,rfl⟩:=Int.eq_ofNat_of_zero_le jj0
         have k7:=k6.trans (sO Ti hp7 sb7)
         have SB7:bG p H H7:=SB6.trans sb7
         have lj:j<h.runs.length:=by omega
         obtain ⟨r,hj⟩:∃ r,h.runs[j]?=some r:=⟨_,List.getElem?_eq_getElem lj⟩
         obtain ⟨vj,hvj⟩:∃ v,wr[j]?=some v:=⟨_,List.getElem?_eq_getElem (by omega)⟩
         obtain ⟨dj,hdj,avj⟩:=rr.get hvj
         rw [List.getElem?_map,hj] at hdj
         obtain rfl:jD r=dj:=Option.some.inj hdj
         have gr:=gd.runs r (List.mem_of_getElem? hj)
         refine aO fun dO aJ=>?_
         obtain ⟨cj,uj,ag4,ecj,lcj,rj⟩:=avj.gk
         subst aJ
         subst ag4
         have apY:=gr.few
         refine Ek (eG (bU.of (k7.tup _ _ ecr)) (v:=.ref cj) (iR hvj) ?_)
         refine ⟨cj,rfl,⟨_,bU.of (k7.tup _ _ ecj)⟩,fun D hD=>Mh (f:=fun d=>kY ((rowOf d).1,(rowOf d).2+mo)) hD (k7.tup _ _ ecj) (rj.kp k7) (by rw [List.length_map]; omega) (fun x d H' hd hx s b R hR'=>?_) (fun vs8 H8 s8 e8 hv8=>?_)⟩
         . obtain ⟨rw,hrw,rfl⟩:=List.mem_map.mp hd
           refine aO fun dO aJ=>?_
           obtain ⟨ax,ux,ag6,eax,_,rx⟩:=hx.gk
           subst aJ
           subst ag6
           refine aO fun dO aJ=>?_
           obtain ⟨x1,x2,ag7,z1,z2⟩:=rx.two
           subst aJ
           subst ag7
           refine ⟨ax,_,rfl,bU.of eax,rfl,_,_,rfl,_,_,rfl,rfl,?_⟩
           exact TD.use (σ:=[some x1,some x2,some (.int mo)]) (d:=.tup [.str rw.1,.int (rw.2+mo)]) (pD (cV (abN z1) (cV (QL (abO z2) (J0 (.int _))) kZ)) (by exact Nat.le_of_ble_eq_true rfl)) (Same.refl _) hR'
         . refine ⟨D,vs8,rfl,.inl ⟨dw.of e8,fun t9 ft9=>?_⟩⟩
           have s9:Same H8 (upd H8 t9 (.tup vs8)):=(Same.refl _).upd ft9
           have hM:bC (upd H8 t9 (.tup vs8)) (.ref t9) (jD (r.map fun r=>(r.1,r.2+mo))):=by
             refine .tup ao (by rw [hv8.len,List.length_map,List.length_map]; omega) ?_
             rw [List.map_map] at hv8 ⊢
             exact hv8.same s9
           generalize upd H8 t9 (.tup vs8)=H9 at s9 hM
           have s79:Same H7 H9:=s8.trans s9
           have k9:Kp H H9:=k7.trans (Kp.of s79)
           refine TD.use (σ:=[some (.ref p),some (.ref a),some (.ref ch),some vl,some (.int pk),some (.int mo),some (.int (k:Int)),some w1,some (.int lo),some (.int hi),some (.int dr),some (.ref cr),some (.int (j:Int)),none,none,none,none,some (.ref t9),none]) (te:=Jm Qe _ _) (uh (uh (QM (k:=j) (Hv (hR.kp k9)) (zV (BP (.int _)))) (pD (cV (Zd hM) kZ) (by exact Nat.le_of_ble_eq_true rfl)) (by simp only [List.length_append,List.length_map,List.length_take,List.length_drop,List.length_cons,List.length_nil]; omega)) (BW (k:=(j+1)) (Hv (hR.kp k9)) (zV (BR (BP (.int _))))) (by simp only [List.length_append,List.length_map,List.length_take,List.length_drop,List.length_cons,List.length_nil]; omega)) (Same.refl _) fun v Oc Ob hv=>?_
           refine hU _ _ ⟨v,iy h.runs j (r.map fun r=>(r.1,r.2+mo)),_,_,rfl,?_,fun z hz=>?_,?_,sS hj,k9.trans (Kp.of Ob),SB7.trans (bG.of (s79.trans Ob)),uO hp7 (s79.trans Ob),RB hj nwh.2.2.2 bmo.1 bmo.2⟩
           . have e:(iy h.runs j (r.map fun r=>(r.1,r.2+mo))).map jD=(h.runs.map jD).take j++[jD (r.map fun r=>(r.1,r.2+mo))]++(h.runs.map jD).drop (j+1):=by
               unfold iy
               rw [List.map_append,List.map_append,List.map_take,List.map_drop]
               rfl
             rw [e]
             exact hv
           . rcases lZ hz with w | w
             . exact gd.runs z w
             . rw [w]; exact Ml gr mo
           . exact Hy hj (by rw [List.map_map]; rfl)
       . exact hU _ _ ⟨_,h.runs,_,_,rfl,hR.kp k6,gd.runs,rfl,rfl,k6,SB6,Ti,nwh.mono.2.2.2⟩
     . exact hU _ _ ⟨_,h.runs,_,_,rfl,hR.kp k4,gd.runs,rfl,rfl,k4,SB4,J8,nwh.mono.2.2.2⟩
   refine aO fun dO aJ=>?_
   obtain ⟨vr,rs,tG,o17,eσ,hvr,grs,ers,lrs,k6,SB6,ag9,rsN⟩:=ZJ
   subst aJ
   subst eσ
   refine Ek (TD.use (σ:=[some (.ref p),some (.ref a),some (.ref ch),some vl,some (.int pk),some (.int mo),some (.int (k:Int)),some w1,some (.int lo),some (.int hi),some (.int dr),some vr,tG,none,none,none,none,o17,none]) (te:=Ax _) (pD (cV (abP (hN.kp k6)) (cV (abQ (.int _)) (cV (abR (.int _)) (cV (Y8 (.int _)) (cV (Hv hvr) kZ))))) (by exact Nat.le_of_ble_eq_true rfl)) (Same.refl _) fun v H7 s7 hv=>?_)
   have k7:=k6.trans (Kp.of s7)
   refine TD.use (σ:=[some (.ref p),some (.ref a),some (.ref ch),some vl,some (.int pk),some (.int mo),some (.int (k:Int)),some w1,some (.int lo),some (.int hi),some (.int dr),some vr,tG,none,none,none,none,o17,some v]) (te:=Ax _) (pD (cV (uh (uh (QM (k:=k) (J0 (hH.kp k7)) (zV (WT (.int _)))) (pD (cV (Ze hv) kZ) (by exact Nat.le_of_ble_eq_true rfl)) (by simp only [List.length_append,List.length_map,List.length_take,List.length_drop,List.length_cons,List.length_nil]; omega)) (BW (k:=(k+1)) (J0 (hH.kp k7)) (zV (BR (WT (.int _))))) (by simp only [List.length_append,List.length_map,List.length_take,List.length_drop,List.length_cons,List.length_nil]; omega)) (cV (QK (hL.kp k7)) kZ)) (by exact Nat.le_of_ble_eq_true rfl)) (Same.refl _) fun y H8 s8 hy=>?_
   have gd':bL ⟨h.name,lo,hi,dr,rs⟩:=⟨gd.name,hhi,hdr,by show rs.length<=25; omega,grs⟩
   have enm:bQ ⟨h.name,lo,hi,dr,rs⟩=bQ h:=ers
   obtain ⟨gp,en⟩:=QT gh hk (h':=⟨h.name,lo,hi,dr,rs⟩) rfl enm gd'
   refine q y (iy hs k ⟨h.name,lo,hi,dr,rs⟩) ls H8 ?_ gp (Em gl hk rfl enm) (sU hk rfl) (Rz nw ⟨nlo,nhi,ndr,rsN⟩) (fun l hl=>(nwl l hl).mono) (uO ag9 (s7.trans s8)) (SB6.trans (bG.of (s7.trans s8)))
   have e:bN (iy hs k ⟨h.name,lo,hi,dr,rs⟩)=.tup ((hs.map cD).take k++[.tup [.str h.name,.int lo,.int hi,.int dr,.tup (rs.map jD)]]++(hs.map cD).drop (k+1)):=by
     unfold bN iy
     rw [List.map_append,List.map_append,List.map_take,List.map_drop]
     rfl
   rw [e]
   exact hy
end
end nj
namespace nj
open PySem L2 iG
def Cp:Sp:=fun vs H Q _=>∃ (x:V) (hs:List aB) (ls:List Letter),vs=[x]/\bM H x hs ls/\(∀ h∈hs,bL h)/\(namesOf hs).length<=48/\∀ (l:Addr) (ss:List Str) (H':Hp),H' l=some (.lst (ss.map V.str))->Same H H'->ss.Perm (namesOf hs)->PyProof.Rows.sortedS ss=true->Q (.ref l) H'
section
variable {P:Program} {w:World} {K:PySem.W.Frag} {mg:Str->Option Value} {base:Heap} {t8 t6 tR tL:Tok}
theorem vV:bx ["_law_ledger_here","_law_found","_law_house_here","_law_run"] ["_law_ledger_here"] (aq xH):=⟨rfl,rfl,rfl,by decide +kernel,rfl,by decide +kernel,by decide +kernel⟩
theorem Vq {f:Addr} {fd:FuncData} (F:lH K "_law_rows" "_law_rows" xH f fd) (T:Txt mg t8 t6 tR tL):aQ P w K mg base cC 1 f fd ["_law_ledger_here"] Cp:=by
 refine F.ok vV (fun vs H Q E h=>?_) (fun cdv A outer s H vs Q E hr h=>?_)
 . obtain ⟨x,hs,ls,rfl,_⟩:=h
   rfl
 . obtain ⟨x,hs,ls,rfl,⟨a,y,z,rfl,ha,⟨c,vh,rfl,hc,ph⟩,hL⟩,gh,gf,q⟩:=h
   have mR:sizeLine=16777216:=sizeLine_eq
   refine ⟨_,(au (aX (i:=1) vV.nd rfl (Or.inl rfl) (gq ak)) (au (iu PassesOwn.never rfl (cY (bR iV (pV 0) aA (fun _ _=>rfl))) (aC (i:=2) vV.nd rfl (Or.inl rfl)) (aF (iu PassesOwn.never rfl (cY (bR iV (pV 2) aA (fun _ _=>rfl))) (aC (i:=3) vV.nd rfl (Or.inl rfl)) (aF (mV (gA PySem.F.plainAttrs_list PySem.F.slot_list_extend PySem.F.type_list_extend K4 (pV 1) (aj (cP (gW:=aq xH) (own:=["_law_row","_law_reading"]) (cap:=[]) (ix:=[]) rfl rfl ⟨rfl,by decide +kernel,by decide +kernel,by decide +kernel,rfl,by decide +kernel⟩ (cY (pV 3)) (fun b=>(dU rfl (aH (aC (i:=0) (show (["_law_row","_law_reading"]:List Str).Nodup by decide +kernel) rfl (Or.inl rfl)) (aH (aC (i:=1) (show (["_law_row","_law_reading"]:List Str).Nodup by decide +kernel) rfl (Or.inl rfl)) cN)))) (fun b=>bZ) (fun b=>(pV 0))) ak))))))) (aF (aW (aP DG rfl T.sorted PyProof.Rows.boot_sorted (aj (pV 1) ak)))))),?_⟩
   refine ⟨Nat.zero_le _,fun D hD=>?_⟩
   have s0:Same H (upd H D (.lst [])):=(Same.refl H).upd hD
   refine eG (bU.of (s0 _ _ ha)) (i:=0) (v:=.ref c) (by rfl) ?_
   refine ⟨c,rfl,⟨_,bU.of (s0 _ _ hc)⟩,mW (xs:=vh) (fun i σ H'=>∃ o2 o3:Option V,σ=[some (.ref a),some (.ref D),o2,o3]/\eE H H' D (((hs.take i).flatMap bQ).map V.str)) ⟨none,none,rfl,eE.start hD⟩ (fun i σ H' _ Zi=>by obtain ⟨_,_,_,G⟩:=Zi; exact bU.of (G.same _ _ hc)) (fun i x σ H' hx Zj=>?_) (fun σ H' Zk=>?_)⟩
   . refine aO fun dO aJ=>?_
     obtain ⟨o2,o3,eσ,G⟩:=Zj
     subst aJ
     subst eσ
     refine aO fun dO aJ=>?_
     obtain ⟨hh,hhi,b,d,aha,gb,c2,vr,ahb,gc,pr⟩:=bf ph hx
     subst aJ
     subst aha
     subst ahb
     refine eG (bU.of (G.same _ _ gb)) (i:=4) (v:=.ref c2) (by rfl) ?_
     refine ⟨c2,rfl,⟨_,bU.of (G.same _ _ gc)⟩,mW (xs:=vr) (fun j σ H'=>∃ o3:Option V,σ=[some (.ref a),some (.ref D),some (.ref b),o3]/\eE H H' D (((hs.take i).flatMap bQ++(hh.runs.take j).flatten.map Prod.fst).map V.str)) ⟨o3,rfl,by simpa using G⟩ (fun j σ H' _ Zm=>by obtain ⟨_,_,G⟩:=Zm; exact bU.of (G.same _ _ gc)) (fun j y σ H' hy ahc=>?_) (fun σ H' Zn=>?_)⟩
     . obtain ⟨o3,eσ,G⟩:=ahc
       subst eσ
       refine aO fun dO aJ=>?_
       obtain ⟨r,hri,c3,ws,ahd,gw,pw⟩:=bf pr hy
       subst aJ
       subst ahd
       have gd:=gh hh (List.mem_of_getElem? hhi)
       have gr:=gd.runs r (List.mem_of_getElem? hri)
       have few:=gr.few
       have lw:=pw.length
       refine ⟨.inl ⟨rfl,_,dw.of G.at'⟩,?_⟩
       refine ⟨c3,rfl,⟨_,bU.of (G.same _ _ gw)⟩,fun E' hE=>comp_map (xs:=ws) (ys:=r.map fun x=>V.str x.1) hE (bU.of (G.same _ _ gw)) (by omega) (by rw [List.length_map]; omega) (fun t x H2 hx s2 b R hR=>?_) (fun H2 s2 e2=>?_)⟩
       . obtain ⟨rr,hrr,ra⟩:=bf pw hx
         obtain ⟨a1,rfl,g1⟩:=ra.ts (G.same.trans s2).tups
         refine ⟨a1,_,rfl,bU.of g1,rfl,_,_,rfl,_,_,rfl,rfl,?_⟩
         exact hR H2 _ (by rw [List.getElem?_map,hrr]; rfl) (Same.refl _)
       . have G2:=G.more s2
         have total:((hs.take i).flatMap bQ++(hh.runs.take j).flatten.map Prod.fst).length+r.length<=48:=by
           have z:=gf
           have e1:hs=hs.take i++(hh :: hs.drop (i+1)):=by
             obtain ⟨li,fi⟩:=List.getElem?_eq_some_iff.mp hhi
             rw [<- fi,List.getElem_cons_drop,List.take_append_drop]
           have e2:hh.runs=hh.runs.take j++(r :: hh.runs.drop (j+1)):=by
             obtain ⟨li,fi⟩:=List.getElem?_eq_some_iff.mp hri
             rw [<- fi,List.getElem_cons_drop,List.take_append_drop]
           have e3:namesOf hs=(hs.take i).flatMap bQ++(bQ hh++(hs.drop (i+1)).flatMap bQ):=by
             unfold namesOf
             conv=>lhs; rw [e1]
             rw [List.flatMap_append,List.flatMap_cons]
           have e4:bQ hh=((hh.runs.take j).flatten++(r++(hh.runs.drop (j+1)).flatten)).map Prod.fst:=by
             unfold bQ jg
             conv=>lhs; rw [e2]
             rw [List.flatten_append,List.flatten_cons]
           rw [e3,e4] at z
           simp only [List.length_append,List.length_map] at z ⊢
           omega
         refine ⟨D,E',_,_,rfl,rfl,G2.at',e2,by rw [List.length_map,List.length_map]; omega,?_⟩
         refine ⟨_,rfl,⟨?_,fun b o e=>by rw [aL (aM e hD)]; exact G2.same _ _ e⟩⟩
         rw [ao,List.take_add_one,hri,List.flatten_append]
         simp
     . obtain ⟨o3,eσ,G⟩:=Zn
       subst eσ
       refine ⟨_,_,rfl,?_⟩
       rw [pr.length,List.take_length] at G
       rw [List.take_add_one,hhi,List.flatMap_append]
       simpa [bQ,jg] using G
   . refine aO fun dO aJ=>?_
     obtain ⟨o2,o3,eσ,G⟩:=Zk
     subst aJ
     subst eσ
     have e:=G.at'
     rw [ph.length,List.take_length] at e
     have few:=gf
     refine ⟨D,namesOf hs,rfl,dw.of e,by omega,fun l ss hl pm so=>?_⟩
     exact q l ss _ ao (G.same.upd hl) pm so
end
end nj
namespace nj
open PySem L2 iG TP
def bV (i:Int):Str:=Str.ofString (toString i)
def Small (i:Int):Prop:=-10000<=i/\i<=10000
def Xb (m:Nat):List Nat:=(Nat.toDigits 10 m).map Char.toNat
theorem sX (m:Nat):NumText.AllDigits (Xb m):=by
 intro c hc
 obtain ⟨ch,hch,e⟩:=List.mem_map.mp hc
 rw [<- e]
 exact PyProof.Rows.digit_range (Nat.isDigit_of_mem_toDigits (by decide) (by decide) hch)
theorem Ie (m:Nat):Xb m≠[]:=fun e=>by
 have h:=Nat.length_toDigits_pos (b:=10) (n:=m)
 rw [List.map_eq_nil_iff.mp e] at h
 simp at h
theorem qd (i:Int):(∃ m:Nat,i=(m:Int)/\L (bV i)=Xb m)∨∃ m:Nat,i=-(((m+1:Nat)):Int)/\L (bV i)=45 :: Xb (m+1):=by
 cases i with
 | ofNat m=>exact .inl ⟨m,rfl,PySem.W.KIN.signs_num m⟩
 | negSucc m =>
   refine .inr ⟨m,rfl,?_⟩
   show (Str.ofString (toString (Int.negSucc m))).cps.toList=_
   rw [PyProof.Rows.signs_ofString]
   have e:(toString (Int.negSucc m)).toList='-' :: (toString (m+1)).toList:=by
     show ("-"++_:String).toList=_
     simp
   rw [e,List.map_cons]
   show _ :: (toString (m+1)).toList.map Char.toNat=_
   have e2:(toString (m+1)).toList=Nat.toDigits 10 (m+1):=by
     show (Nat.repr (m+1)).toList=_
     rw [Nat.toList_repr]
   rw [e2]
   rfl
theorem fY {i:Int} (h:Small i):(bV i).length<=11:=by
 obtain ⟨h1,h2⟩:=h
 by_cases z:0<=i
 . exact Nat.le_trans (PySem.W.KT.len_num z (by rw [show (10:Int) ^ 10=10000000000 by decide +kernel]; omega)) (by decide)
 . rcases qd i with ⟨m,e,_⟩ | ⟨m,e,l⟩
   . omega
   . have l1:=PySem.W.KT.len_num (n:=((m+1:Nat):Int)) (by omega) (by rw [show (10:Int) ^ 10=10000000000 by decide +kernel]; omega)
     have l2:(Xb (m+1)).length<=10:=by
       show ((Nat.toDigits 10 (m+1)).map Char.toNat).length<=10
       rw [<- PySem.W.KIN.signs_num (m+1),L2.len_list]
       exact l1
     have l3:=congrArg List.length l
     rw [List.length_cons] at l3
     have l4:(L (bV i)).length=(bV i).length:=L2.len_list _
     omega
theorem num_reads {i:Int} (h:Small i):intText? (bV i)=some i:=by
 have ln:=fY h
 rcases qd i with ⟨m,e,l⟩ | ⟨m,e,l⟩
 . have z:=intText_digits (x:=bV i) (by rw [show (bV i).cps.toList=_ from l]; exact sX m) (by rw [show (bV i).cps.toList=_ from l]; exact Ie m) (by omega)
   rw [show (bV i).cps.toList=Xb m from l,show NumText.digitsVal (Xb m)=m from PySem.W.KIN.val_back m] at z
   rw [z,e]
 . have z:=intText_neg (x:=bV i) l (sX _) (Ie _) (by omega)
   rw [show NumText.digitsVal (Xb (m+1))=m+1 from PySem.W.KIN.val_back (m+1)] at z
   rw [z,e]
theorem gG {c:Nat} (i:Int) (h:c≠45/\(c<48∨57<c)):c ∉ L (bV i):=fun hc=>by
 rcases qd i with ⟨m,_,l⟩ | ⟨m,_,l⟩
 . rw [l] at hc
   have:=sX m c hc
   omega
 . rw [l] at hc
   rcases List.mem_cons.mp hc with e | hc
   . exact h.1 e
   . have:=sX _ c hc
     omega
theorem nT {i:Int} (h:Small i):i.natAbs.log2<1920:=by
 obtain ⟨h1,h2⟩:=h
 by_cases h0:i.natAbs=0
 . rw [h0]; decide
 . have:=(Nat.log2_lt (n:=i.natAbs) (k:=30) h0).mpr (by omega)
   omega
theorem yh (i:Int):bV i≠"-":=fun e=>by
 have e0:L ("-" : Str)=[45]:=by decide +kernel
 rcases qd i with ⟨m,_,l⟩ | ⟨m,_,l⟩
 . rw [e,e0] at l
   have:=sX m 45 (by rw [<- l]; exact List.mem_cons_self)
   omega
 . rw [e,e0] at l
   exact Ie _ (List.cons.inj l).2.symm
theorem gM {z:Str} (g:Good z) {c:Nat} (h:c<97∨122<c):c ∉ L z:=fun hc=>by
 have:=g.all c hc
 simp [low] at this
 omega
def jN (r:Row):Str:=" "++(r.1++("@"++bV r.2))
def cW (rs:List Row):Str:=Str.join "" (rs.map jN)
def fW (h:aB):Str:=Str.join " " ["house",h.name,bV h.low,bV h.high,bV h.aN]
def cA (h:aB):Str:=fW h++":"++Str.join " /" (h.runs.map cW)
def gH:Option Int->Str
 | none=>"-"
 | some m=>bV m
def bY (l:Letter):Str:=Str.join " " ["letter",l.1.1,l.1.2,bV l.2.1,gH l.2.2]
def aG (hs:List aB) (ls:List Letter):List Str:=hs.map cA++ls.map bY
def cX (hs:List aB) (ls:List Letter):Str:=Str.join "\n" (aG hs ls)
structure ZQ (h:aB):Prop where
 low:Small h.low
 high:Small h.high
 aN:Small h.aN
 rows:∀ r∈jg h,Small r.2
structure ZR (l:Letter):Prop where
 least:Small l.2.1
 most:∀ m,l.2.2=some m->Small m
theorem Ig:(" " : Str)=⟨#[32]⟩/\("@" : Str)=⟨#[64]⟩/\(":" : Str)=⟨#[58]⟩/\("\n" : Str)=⟨#[10]⟩/\(" /" : Str)=⟨#[32,47]⟩:=by
 refine ⟨?_,?_,?_,?_,?_⟩ <;> decide +kernel
theorem gQ:L (" " : Str)=[32]/\L ("@" : Str)=[64]/\L (":" : Str)=[58]/\L ("\n" : Str)=[10]/\L (" /" : Str)=[32,47]/\L ("-" : Str)=[45]/\L ("house" : Str)=[104,111,117,115,101]/\L ("letter" : Str)=[108,101,116,116,101,114]/\L ("" : Str)=[]:=by
 refine ⟨?_,?_,?_,?_,?_,?_,?_,?_,?_⟩ <;> decide +kernel
theorem RD:∀ l:List (List Nat),jn [] l=l.flatten
 | []=>rfl
 | [x]=>by simp [jn]
 | x :: y :: r=>by
   show x++([]++jn [] (y :: r))=x++(y :: r).flatten
   rw [RD (y :: r)]; rfl
theorem RG (rs:List Row):L (cW rs)=(rs.map fun r=>L (jN r)).flatten:=by
 unfold cW
 rw [fQ,gQ.2.2.2.2.2.2.2.2,RD,List.map_map]
 rfl
theorem Ka (r:Row):L (jN r)=32 :: (L r.1++64 :: L (bV r.2)):=by
 unfold jN
 rw [jL,jL,jL,gQ.1,gQ.2.1]
 rfl
theorem row_free {r:Row} (g:Good r.1) {c:Nat} (h:c=47∨c=10∨c=58):c ∉ L (jN r):=fun hc=>by
 rw [Ka] at hc
 rcases List.mem_cons.mp hc with e | hc
 . omega
 . rcases List.mem_append.mp hc with hc | hc
   . exact gM g (by omega) hc
   . rcases List.mem_cons.mp hc with e | hc
     . omega
     . exact gG r.2 (by omega) hc
theorem Fv {rs:List Row} (g:∀ r∈rs,Good r.1) {c:Nat} (h:c=47∨c=10∨c=58):c ∉ L (cW rs):=fun hc=>by
 rw [RG] at hc
 obtain ⟨l,hl,hc⟩:=List.mem_flatten.mp hc
 obtain ⟨r,hr,rfl⟩:=List.mem_map.mp hl
 exact row_free (g r hr) h hc
theorem Cq {sep:List Nat} {c:Nat}:∀ {l:List (List Nat)},c∈jn sep l->c∈sep∨∃ x∈l,c∈x
 | [],h=>by cases h
 | [x],h=>.inr ⟨x,List.mem_cons_self,h⟩
 | x :: y :: r,h=>by
   rcases List.mem_append.mp (show c∈x++(sep++jn sep (y :: r)) from h) with h | h
   . exact .inr ⟨x,List.mem_cons_self,h⟩
   . rcases List.mem_append.mp h with h | h
     . exact .inl h
     . rcases Cq h with h | ⟨z,hz,h⟩
       . exact .inl h
       . exact .inr ⟨z,List.mem_cons_of_mem _ hz,h⟩
theorem RJ {sep:List Nat} {B:Nat}:∀ {l:List (List Nat)},(∀ x∈l,x.length<=B)->(jn sep l).length<=l.length * (B+sep.length)
 | [],_=>Nat.zero_le _
 | [x],h=>by have:=h x List.mem_cons_self; show x.length<=1 * _; omega
 | x :: y :: r,h=>by
   have h1:=h x List.mem_cons_self
   have h2:=RJ (sep:=sep) (l:=y :: r) fun z hz=>h z (List.mem_cons_of_mem _ hz)
   show (x++(sep++jn sep (y :: r))).length<=_
   rw [List.length_append,List.length_append,List.length_cons,Nat.succ_mul]
   omega
theorem pG {sep:Str} {B:Nat} {ts:List Str} (h:∀ t∈ts,t.length<=B):(Str.join sep ts).length<=ts.length * (B+sep.length):=by
 have z:=RJ (sep:=L sep) (B:=B) (l:=ts.map L) fun x hx=>by
   obtain ⟨t,ht,rfl⟩:=List.mem_map.mp hx
   have:(L t).length=t.length:=L2.len_list t
   rw [this]; exact h t ht
 rw [<- fQ,List.length_map] at z
 have e1:(L (Str.join sep ts)).length=(Str.join sep ts).length:=L2.len_list _
 have e2:(L sep).length=sep.length:=L2.len_list _
 rw [e1,e2] at z
 exact z
theorem Kc {r:Row} (g:Good r.1) (s:Small r.2):(jN r).length<=30:=by
 have e:(L (jN r)).length=(jN r).length:=L2.len_list _
 rw [Ka,List.length_cons,List.length_append,List.length_cons] at e
 have e1:(L r.1).length=r.1.length:=L2.len_list _
 have e2:(L (bV r.2)).length=(bV r.2).length:=L2.len_list _
 have:=g.hi
 have:=fY s
 omega
end nj
namespace nj
open PySem L2 iG TP
theorem lens:(" " : Str).length=1/\("@" : Str).length=1/\(":" : Str).length=1/\("\n" : Str).length=1/\(" /" : Str).length=2/\("-" : Str).length=1/\("house " : Str).length=6/\("letter " : Str).length=7/\("" : Str).length=0/\Str.empty.length=0/\("house" : Str).length=5/\("letter" : Str).length=6:=by
 refine ⟨?_,?_,?_,?_,?_,?_,?_,?_,?_,?_,?_,?_⟩ <;> decide +kernel
theorem uP {B:Nat}:∀ {ts:List Str},(∀ t∈ts,t.length<=B)->(ts.map (·.length)).sum<=ts.length * B
 | [],_=>Nat.zero_le _
 | t :: ts,h=>by
   have h1:=h t List.mem_cons_self
   have h2:=uP (B:=B) (ts:=ts) fun z hz=>h z (List.mem_cons_of_mem _ hz)
   rw [List.map_cons,List.sum_cons,List.length_cons,Nat.succ_mul]
   omega
theorem join_eq (sep:Str) (ts:List Str):Txt.join sep ts=Str.join sep ts:=StrLaws.glued_eq_join sep ts
theorem Cr:L Str.empty=[]:=rfl
theorem Vr:L ("house " : Str)=[104,111,117,115,101,32]/\L ("letter " : Str)=[108,101,116,116,101,114,32]:=by constructor <;> decide +kernel
theorem ZS (r:Row):Str.empty++" "++r.1++"@"++bV r.2=jN r:=TP.ext (by
 unfold jN
 simp only [jL,Cr,List.nil_append,List.append_assoc])
theorem Vs (h:aB):Str.empty++"house "++h.name++" "++bV h.low++" "++bV h.high++" "++bV h.aN++":" = fW h++":":=TP.ext (by
 unfold fW
 simp only [jL,Cr,List.nil_append,List.append_assoc,fQ,List.map_cons,List.map_nil,jn,Vr.1,gQ.1,gQ.2.2.2.2.2.2.1]
 rfl)
theorem Ng (l:Letter):Str.empty++"letter "++l.1.1++" "++l.1.2++" "++bV l.2.1++" "++gH l.2.2=bY l:=TP.ext (by
 unfold bY
 simp only [jL,Cr,List.nil_append,List.append_assoc,fQ,List.map_cons,List.map_nil,jn,Vr.2,gQ.1,gQ.2.2.2.2.2.2.2.1]
 rfl)
structure Cu (h:aB):Prop where
 good:bL h
 small:ZQ h
structure Fx (l:Letter):Prop where
 sent:Good l.1.1
 taken:Good l.1.2
 small:ZR l
theorem Cu.run {h:aB} (g:Cu h) {rs:List Row} (hr:rs∈h.runs):∀ r∈rs,Good r.1/\Small r.2:=fun r h1=>⟨(g.good.runs rs hr).names r h1,g.small.rows r (List.mem_flatten.mpr ⟨rs,hr,h1⟩)⟩
theorem Cv {rs:List Row} (few:rs.length<=25) (g:∀ r∈rs,Good r.1/\Small r.2):(cW rs).length<=750:=by
 have z:=pG (sep:="") (B:=30) (ts:=rs.map jN) fun t ht=>by
   obtain ⟨r,hr,rfl⟩:=List.mem_map.mp ht
   exact Kc (g r hr).1 (g r hr).2
 rw [List.length_map,lens.2.2.2.2.2.2.2.2.1] at z
 show (Str.join "" (rs.map jN)).length<=750
 omega
theorem yj {h:aB} (g:Cu h):(fW h).length<=100:=by
 have l1:=g.good.name.hi
 have l2:=fY g.small.low
 have l3:=fY g.small.high
 have l4:=fY g.small.aN
 have l5:=lens
 have z:=pG (sep:=" ") (B:=11) (ts:=["house",h.name,bV h.low,bV h.high,bV h.aN]) fun t ht=>by
   simp only [List.mem_cons,List.not_mem_nil,or_false] at ht
   rcases ht with rfl | rfl | rfl | rfl | rfl <;> omega
 have e:(["house",h.name,bV h.low,bV h.high,bV h.aN]:List Str).length=5:=rfl
 rw [e] at z
 show (Str.join " " _).length<=100
 omega
theorem yp {h:aB} (g:Cu h):(Str.join " /" (h.runs.map cW)).length<=20000:=by
 have z:=pG (sep:=" /") (B:=750) (ts:=h.runs.map cW) fun t ht=>by
   obtain ⟨rs,hr,rfl⟩:=List.mem_map.mp ht
   exact Cv (g.good.runs rs hr).few (g.run hr)
 rw [List.length_map,lens.2.2.2.2.1] at z
 have:=g.good.few
 omega
theorem Af {h:aB} (g:Cu h):(cA h).length<=21000:=by
 have l1:=yj g
 have l2:=yp g
 have l3:=lens.2.2.1
 unfold cA
 rw [bI,bI]
 omega
theorem Fy {l:Letter} (g:Fx l):(gH l.2.2).length<=11:=by
 cases e:l.2.2 with
 | none=>show ("-" : Str).length<=11; have:=lens; omega
 | some m=>exact fY (g.small.most m e)
theorem yq {l:Letter} (g:Fx l):(bY l).length<=100:=by
 have l1:=g.sent.hi
 have l2:=g.taken.hi
 have l3:=fY g.small.least
 have l4:=Fy g
 have l5:=lens
 have z:=pG (sep:=" ") (B:=11) (ts:=["letter",l.1.1,l.1.2,bV l.2.1,gH l.2.2]) fun t ht=>by
   simp only [List.mem_cons,List.not_mem_nil,or_false] at ht
   rcases ht with rfl | rfl | rfl | rfl | rfl <;> omega
 have e:(["letter",l.1.1,l.1.2,bV l.2.1,gH l.2.2]:List Str).length=5:=rfl
 rw [e] at z
 show (Str.join " " _).length<=100
 omega
structure sY (hs:List aB) (ls:List Letter):Prop where
 few:hs.length<=6
 yr:ls.length<=24
 gR:∀ h∈hs,Cu h
 letters:∀ l∈ls,Fx l
theorem sY.vW {hs:List aB} {ls:List Letter} (g:sY hs ls):∀ t∈aG hs ls,t.length<=21000:=fun t ht=>by
 rcases List.mem_append.mp ht with h | h
 . obtain ⟨x,hx,rfl⟩:=List.mem_map.mp h
   exact Af (g.gR x hx)
 . obtain ⟨x,hx,rfl⟩:=List.mem_map.mp h
   have:=yq (g.letters x hx)
   omega
theorem sY.qg {hs:List aB} {ls:List Letter} (g:sY hs ls):(aG hs ls).length<=30:=by
 unfold aG
 rw [List.length_append,List.length_map,List.length_map]
 have:=g.few
 have:=g.yr
 omega
theorem sY.len {hs:List aB} {ls:List Letter} (g:sY hs ls):(cX hs ls).length<=700000:=by
 have z:=pG (sep:="\n") (B:=21000) (ts:=aG hs ls) g.vW
 rw [lens.2.2.2.1] at z
 have n:=g.qg
 have:(aG hs ls).length * 21001<=30 * 21001:=Nat.mul_le_mul_right _ n
 show (Str.join "\n" (aG hs ls)).length<=700000
 omega
theorem yt {t u:TS} {D:Ends} {σ:St} {H:Hp} (N:St->Hp->Prop) (h:∀ U:St->Hp->Prop,(∀ σ' H',N σ' H'->U σ' H')->t { D with nx:=U } σ H) (hN:∀ σ' H',N σ' H'->u D σ' H'):oG t u D σ H:=h (u D) hN
def Cw:Sp:=fun vs H Q _=>∃ (x:V) (rs:List Row),vs=[x]/\jf H x rs/\rs.length<=25/\(∀ r∈rs,Good r.1/\Small r.2)/\∀ H',Same H H'->Q (.str (cW rs)) H'
def uQ:Sp:=fun vs H Q _=>∃ (x:V) (h:aB),vs=[x]/\dI H x h/\Cu h/\∀ H',Same H H'->Q (.str (cA h)) H'
def qX:Sp:=fun vs H Q _=>∃ (x:V) (l:Letter),vs=[x]/\dM H x l/\Fx l/\∀ H',Same H H'->Q (.str (bY l)) H'
def qY:Sp:=fun vs H Q _=>∃ (x:V) (hs:List aB) (ls:List Letter),vs=[x]/\bM H x hs ls/\sY hs ls/\∀ H',Same H H'->Q (.str (cX hs ls)) H'
section
variable {P:Program} {w:World} {K:PySem.W.Frag} {mg:Str->Option Value} {base:Heap} {t8 t6 tR tL:Tok}
theorem RK:bx ["run"] ["run"] (aq qP):=⟨rfl,rfl,rfl,by decide +kernel,rfl,by decide +kernel,by decide +kernel⟩
theorem RM {f:Addr} {fd:FuncData} (F:lH K "show_run" "show_run" qP f fd):aQ P w K mg base cC 1 f fd ["run"] Cw:=by
 refine F.ok RK (fun vs H Q E h=>?_) (fun cdv A outer s H vs Q E hr h=>?_)
 . obtain ⟨x,rs,rfl,_⟩:=h
   rfl
 . obtain ⟨x,rs,rfl,⟨c,vs,rfl,hc,pr⟩,few,gs,q⟩:=h
   have mR:sizeLine=16777216:=sizeLine_eq
   have lz:=pr.length
   have ln:=lens
   refine ⟨_,(aF (aW (gA PySem.F.plainAttrs_str PySem.F.slot_str_join PySem.F.type_str_join rP bJ (aj (cP (gW:=aq qP) (own:=["name","reading"]) (cap:=[]) (ix:=[]) rfl rfl ⟨rfl,by decide +kernel,by decide +kernel,by decide +kernel,rfl,by decide +kernel⟩ (cY (pV 0)) (fun b=>(dU rfl (aH (aC (i:=0) (show (["name","reading"]:List Str).Nodup by decide +kernel) rfl (Or.inl rfl)) (aH (aC (i:=1) (show (["name","reading"]:List Str).Nodup by decide +kernel) rfl (Or.inl rfl)) cN)))) (fun b=>bZ) (fun b=>(Bs (dB bJ (dB (lK (pV 0)) (dB bJ (dB (lK (pV 1)) Hi))))))) ak)))),?_⟩
   refine ⟨rfl,?_⟩
   refine ⟨c,rfl,⟨_,bU.of hc⟩,fun D hD=>comp_map (xs:=vs) (ys:=(rs.map jN).map V.str) hD (bU.of hc) (by omega) (by rw [List.length_map,List.length_map]; omega) (fun i y H2 hy s2 b R hR=>?_) (fun H2 s2 e2=>?_)⟩
   . obtain ⟨rr,hrr,ra⟩:=bf pr hy
     obtain ⟨a1,rfl,g1⟩:=ra.ts s2.tups
     obtain ⟨gn,gm⟩:=gs rr (List.mem_of_getElem? hrr)
     have n1:=gn.hi
     have n2:=fY gm
     refine ⟨a1,_,rfl,bU.of g1,rfl,_,_,rfl,_,_,rfl,rfl,?_⟩
     refine ⟨" ",rfl,by rw [bI]; omega,?_⟩
     refine .inl ⟨rr.1,rfl,by omega,rr.1,rfl,by rw [bI,bI]; omega,?_⟩
     refine ⟨"@",rfl,by rw [bI,bI,bI]; omega,?_⟩
     refine .inr ⟨rr.2,rfl,nT gm,bV rr.2,rfl,by rw [bI,bI,bI,bI]; omega,?_⟩
     refine ⟨by rw [bI,bI,bI,bI]; omega,?_⟩
     rw [ZS]
     exact hR H2 _ (by rw [List.getElem?_map,List.getElem?_map,hrr]; rfl) (Same.refl _)
   . have sm:=uP (B:=30) (ts:=rs.map jN) fun t ht=>by
       obtain ⟨r,hr,rfl⟩:=List.mem_map.mp ht
       exact Kc (gs r hr).1 (gs r hr).2
     rw [List.length_map] at sm
     refine ⟨"",D,rs.map jN,rfl,rfl,dw.of e2,by rw [List.length_map,ln.2.2.2.2.2.2.2.2.1]; omega,?_⟩
     rw [join_eq]
     exact q H2 s2
theorem jo:bx ["house","name","low","high","drift","runs"] ["house"] (aq j8):=⟨rfl,rfl,rfl,by decide +kernel,rfl,by decide +kernel,by decide +kernel⟩
theorem Ih {f Cy:Addr} {fd Fz:FuncData} (F:lH K "show_house" "show_house" j8 f fd)
   (Vt:aQ P w K mg base cC 1 Cy Fz ["run"] Cw) (Vu:mg "show_run" = some (.ref Cy)) (Vv:PySem.W.keepIn K (.ref Cy)=true) (Vw:Binds K Fz ["run"] []):aQ P w K mg base cC 2 f fd ["house"] uQ:=by
 refine F.ok jo (fun vs H Q E h=>?_) (fun cdv A outer s H vs Q E hr h=>?_)
 . obtain ⟨x,h,rfl,_⟩:=h
   rfl
 . obtain ⟨x,h,rfl,⟨c,b,rfl,hc,c5,vr,rfl,e5,pr⟩,g,q⟩:=h
   have mR:sizeLine=16777216:=sizeLine_eq
   have ln:=lens
   have n1:=g.good.name.hi
   have n2:=fY g.small.low
   have n3:=fY g.small.high
   have n4:=fY g.small.aN
   have few:=g.good.few
   have lr:=pr.length
   refine ⟨_,(au (jZ (pV 0) (dU rfl (aH (aC (i:=1) jo.nd rfl (Or.inl rfl)) (aH (aC (i:=2) jo.nd rfl (Or.inl rfl)) (aH (aC (i:=3) jo.nd rfl (Or.inl rfl)) (aH (aC (i:=4) jo.nd rfl (Or.inl rfl)) (aH (aC (i:=5) jo.nd rfl (Or.inl rfl)) cN))))))) (aF (aW (bK Dt (Bs (dB bJ (dB (lK (pV 1)) (dB bJ (dB (lK (pV 2)) (dB bJ (dB (lK (pV 3)) (dB bJ (dB (lK (pV 4)) (dB bJ Hi)))))))))) (gA PySem.F.plainAttrs_str PySem.F.slot_str_join PySem.F.type_str_join rP bJ (aj (cP (gW:=aq j8) (own:=["run"]) (cap:=[]) (ix:=[]) rfl rfl ⟨rfl,by decide +kernel,by decide +kernel,by decide +kernel,rfl,by decide +kernel⟩ (cY (pV 5)) (fun b=>(aC (i:=0) (show (["run"]:List Str).Nodup by decide +kernel) rfl (Or.inl rfl))) (fun b=>bZ) (fun b=>(aD Vt hr rfl Vu Vv Vw .nil aR (aj (pV 0) ak)))) ak)))))),?_⟩
   refine ⟨c,_,rfl,bU.of hc,rfl,_,_,rfl,_,_,rfl,_,_,rfl,_,_,rfl,_,_,rfl,rfl,?_⟩
   refine ⟨"house ",rfl,by simp only [bI]; omega,?_⟩
   refine .inl ⟨h.name,rfl,by omega,h.name,rfl,by simp only [bI]; omega,?_⟩
   refine ⟨" ",rfl,by simp only [bI]; omega,?_⟩
   refine .inr ⟨h.low,rfl,nT g.small.low,bV h.low,rfl,by simp only [bI]; omega,?_⟩
   refine ⟨" ",rfl,by simp only [bI]; omega,?_⟩
   refine .inr ⟨h.high,rfl,nT g.small.high,bV h.high,rfl,by simp only [bI]; omega,?_⟩
   refine ⟨" ",rfl,by simp only [bI]; omega,?_⟩
   refine .inr ⟨h.aN,rfl,nT g.small.aN,bV h.aN,rfl,by simp only [bI]; omega,?_⟩
   refine ⟨":",rfl,by simp only [bI]; omega,?_⟩
   refine ⟨by simp only [bI]; omega,?_⟩
   rw [Vs]
   refine ⟨rfl,?_⟩
   refine ⟨c5,rfl,⟨_,bU.of e5⟩,fun D hD=>comp_map (xs:=vr) (ys:=(h.runs.map cW).map V.str) hD (bU.of e5) (by omega) (by rw [List.length_map,List.length_map]; omega) (fun i y H2 hy s2 b R hR=>?_) (fun H2 s2 e2=>?_)⟩
   . obtain ⟨rs,hrs,ra⟩:=bf pr hy
     have hm:=List.mem_of_getElem? hrs
     refine ⟨y,rs,rfl,ra.ts s2.tups,(g.good.runs rs hm).few,g.run hm,fun H3 s3=>?_⟩
     exact hR H3 _ (by rw [List.getElem?_map,List.getElem?_map,hrs]; rfl) s3
   . have sm:=uP (B:=750) (ts:=h.runs.map cW) fun t ht=>by
       obtain ⟨rs,hr,rfl⟩:=List.mem_map.mp ht
       exact Cv (g.good.runs rs hr).few (g.run hr)
     rw [List.length_map] at sm
     refine ⟨" /",D,h.runs.map cW,rfl,rfl,dw.of e2,by rw [List.length_map,ln.2.2.2.2.1]; omega,?_⟩
     rw [join_eq]
     have l1:=yj g
     have l2:=yp g
     refine ⟨by rw [bI]; omega,?_⟩
     exact q H2 s2
theorem iJ:bx ["letter","sent","taken","least","most","last"] ["letter"] (aq jT):=⟨rfl,rfl,rfl,by decide +kernel,rfl,by decide +kernel,by decide +kernel⟩
theorem FJ {f:Addr} {fd:FuncData} (F:lH K "show_letter" "show_letter" jT f fd) (T:Txt mg t8 t6 tR tL):aQ P w K mg base cC 1 f fd ["letter"] qX:=by
 refine F.ok iJ (fun vs H Q E h=>?_) (fun cdv A outer s H vs Q E hr h=>?_)
 . obtain ⟨x,l,rfl,_⟩:=h
   rfl
 . obtain ⟨x,l,rfl,⟨c,rfl,hc⟩,g,q⟩:=h
   have mR:sizeLine=16777216:=sizeLine_eq
   have ln:=lens
   have n1:=g.sent.hi
   have n2:=g.taken.hi
   have n3:=fY g.small.least
   have n4:=Fy g
   refine ⟨_,(au (jZ (pV 0) (dU rfl (aH (aC (i:=1) iJ.nd rfl (Or.inl rfl)) (aH (aC (i:=2) iJ.nd rfl (Or.inl rfl)) (aH (aC (i:=3) iJ.nd rfl (Or.inl rfl)) (aH (aC (i:=4) iJ.nd rfl (Or.inl rfl)) cN)))))) (au (aX (i:=5) iJ.nd rfl (Or.inl rfl) (rM (vZ (Xp (pV 4))) bJ (cZ rY rfl T.str PyProof.Rows.boot_str (aj (pV 4) ak)))) (aF (aW (Bs (dB bJ (dB (lK (pV 1)) (dB bJ (dB (lK (pV 2)) (dB bJ (dB (lK (pV 3)) (dB bJ (dB (lK (pV 5)) Hi))))))))))))),?_⟩
   refine gP fun Uz Cm=>?_
   refine ⟨c,_,rfl,bU.of hc,rfl,_,_,rfl,_,_,rfl,_,_,rfl,_,_,rfl,rfl,?_⟩
   subst Cm
   show oG (qD _ _) _ _ [some (.ref c),some (.str l.1.1),some (.str l.1.2),some (.int l.2.1),some (jM l.2.2),none] H
   refine yt (fun σ' H'=>σ'=[some (.ref c),some (.str l.1.1),some (.str l.1.2),some (.int l.2.1),some (jM l.2.2),some (.str (gH l.2.2))]/\H'=H) (fun U hU=>?_) (fun σ' H' hN=>?_)
   . cases em:l.2.2 with
     | none =>
       refine ⟨_,rfl,?_⟩
       rw [em] at hU
       exact hU _ _ ⟨rfl,rfl⟩
     | some m =>
       refine ⟨_,rfl,?_⟩
       rw [em] at hU
       exact .inl ⟨m,rfl,nT (g.small.most m em),hU _ _ ⟨rfl,rfl⟩⟩
   . obtain ⟨rfl,rfl⟩:=hN
     refine ⟨"letter ",rfl,by simp only [bI]; omega,?_⟩
     refine .inl ⟨l.1.1,rfl,by omega,l.1.1,rfl,by simp only [bI]; omega,?_⟩
     refine ⟨" ",rfl,by simp only [bI]; omega,?_⟩
     refine .inl ⟨l.1.2,rfl,by omega,l.1.2,rfl,by simp only [bI]; omega,?_⟩
     refine ⟨" ",rfl,by simp only [bI]; omega,?_⟩
     refine .inr ⟨l.2.1,rfl,nT g.small.least,bV l.2.1,rfl,by simp only [bI]; omega,?_⟩
     refine ⟨" ",rfl,by simp only [bI]; omega,?_⟩
     refine .inl ⟨gH l.2.2,rfl,by omega,gH l.2.2,rfl,by simp only [bI]; omega,?_⟩
     refine ⟨by simp only [bI]; omega,?_⟩
     rw [Ng]
     exact q _ (Same.refl _)
theorem pH:bx ["ledger","houses","letters"] ["ledger"] (aq iI):=⟨rfl,rfl,rfl,by decide +kernel,rfl,by decide +kernel,by decide +kernel⟩
theorem FN {f uR qZ:Addr} {fd yu vg:FuncData} (F:lH K "show_ledger" "show_ledger" iI f fd)
   (Nh:aQ P w K mg base cC 2 uR yu ["house"] uQ) (Ni:mg "show_house" = some (.ref uR)) (Nj:PySem.W.keepIn K (.ref uR)=true) (Nk:Binds K yu ["house"] [])
   (Ii:aQ P w K mg base cC 2 qZ vg ["letter"] qX) (Ij:mg "show_letter" = some (.ref qZ)) (Ik:PySem.W.keepIn K (.ref qZ)=true) (Il:Binds K vg ["letter"] []):aQ P w K mg base cC 3 f fd ["ledger"] qY:=by
 refine F.ok pH (fun vs H Q E h=>?_) (fun cdv A outer s H vs Q E hr h=>?_)
 . obtain ⟨x,hs,ls,rfl,_⟩:=h
   rfl
 . obtain ⟨x,hs,ls,rfl,⟨a,y,z,rfl,ha,⟨c,vh,rfl,hc,ph⟩,⟨c2,vl,rfl,hc2,pl⟩⟩,g,q⟩:=h
   have mR:sizeLine=16777216:=sizeLine_eq
   have ln:=lens
   have h6:=g.few
   have ZP:=g.yr
   have l1:=ph.length
   have l2:=pl.length
   refine ⟨_,(au (jZ (pV 0) (dU rfl (aH (aC (i:=1) pH.nd rfl (Or.inl rfl)) (aH (aC (i:=2) pH.nd rfl (Or.inl rfl)) cN)))) (aF (aW (gA PySem.F.plainAttrs_str PySem.F.slot_str_join PySem.F.type_str_join rP bJ (aj (bK Gz (cP (gW:=aq iI) (own:=["house"]) (cap:=[]) (ix:=[]) rfl rfl ⟨rfl,by decide +kernel,by decide +kernel,by decide +kernel,rfl,by decide +kernel⟩ (cY (pV 1)) (fun b=>(aC (i:=0) (show (["house"]:List Str).Nodup by decide +kernel) rfl (Or.inl rfl))) (fun b=>bZ) (fun b=>(aD Nh hr rfl Ni Nj Nk .nil aR (aj (pV 0) ak)))) (cP (gW:=aq iI) (own:=["letter"]) (cap:=[]) (ix:=[]) rfl rfl ⟨rfl,by decide +kernel,by decide +kernel,by decide +kernel,rfl,by decide +kernel⟩ (cY (pV 2)) (fun b=>(aC (i:=0) (show (["letter"]:List Str).Nodup by decide +kernel) rfl (Or.inl rfl))) (fun b=>bZ) (fun b=>(aD Ii hr rfl Ij Ik Il .nil aR (aj (pV 0) ak))))) ak))))),?_⟩
   refine ⟨a,_,rfl,bU.of ha,rfl,_,_,rfl,_,_,rfl,rfl,?_⟩
   refine ⟨rfl,?_⟩
   refine ⟨c,rfl,⟨_,bU.of hc⟩,fun D hD=>comp_map (xs:=vh) (ys:=(hs.map cA).map V.str) hD (bU.of hc) (by omega) (by rw [List.length_map,List.length_map]; omega) (fun i y H2 hy s2 b R hR=>?_) (fun H2 s2 e2=>?_)⟩
   . obtain ⟨h,hh,ra⟩:=bf ph hy
     refine ⟨y,h,rfl,ra.ts s2.tups,g.gR h (List.mem_of_getElem? hh),fun H3 s3=>?_⟩
     exact hR H3 _ (by rw [List.getElem?_map,List.getElem?_map,hh]; rfl) s3
   . refine ⟨c2,rfl,⟨_,bU.of (s2 _ _ hc2)⟩,fun D2 hD2=>comp_map (xs:=vl) (ys:=(ls.map bY).map V.str) hD2 (bU.of (s2 _ _ hc2)) (by omega) (by rw [List.length_map,List.length_map]; omega) (fun i y H3 hy s3 b R hR=>?_) (fun H3 s3 e3=>?_)⟩
     . obtain ⟨l,hl,ra⟩:=bf pl hy
       refine ⟨y,l,rfl,ra.ts (s2.trans s3).tups,g.letters l (List.mem_of_getElem? hl),fun H4 s4=>?_⟩
       exact hR H4 _ (by rw [List.getElem?_map,List.getElem?_map,hl]; rfl) s4
     . refine ⟨D,D2,_,_,rfl,rfl,s3 _ _ e2,e3,by simp only [List.length_map]; omega,fun p hp=>?_⟩
       have sm:=uP (B:=21000) (ts:=aG hs ls) g.vW
       have n:=g.qg
       have n2:(aG hs ls).length * 21000<=30 * 21000:=Nat.mul_le_mul_right _ n
       refine ⟨"\n",p,aG hs ls,rfl,rfl,dw.of (by rw [ao]; unfold aG; rw [List.map_append]),by rw [ln.2.2.2.1]; omega,?_⟩
       rw [join_eq]
       exact q _ ((s2.trans s3).upd hp)
end
end nj
namespace nj
open PySem L2 iG TP
end nj
namespace nj
open PySem L2 iG TP
theorem ahe (xs:List V):jP xs (some 1) none=xs.drop 1:=by
 unfold jP
 rw [HT.jz,show (some 1:Option Int)=some ((1:Nat):Int) from rfl,HT.gZ]
 rcases Nat.lt_or_ge 0 xs.length with z | z
 . rw [Nat.min_eq_left z,List.take_of_length_le (by rw [List.length_drop]; omega)]
 . have:xs=[]:=List.eq_nil_of_length_eq_zero (by omega)
   subst this; rfl
def dH (r:Row):Str:=r.1++⟨#[64]⟩++bV r.2
theorem Im (r:Row):L (dH r)=L r.1++64 :: L (bV r.2):=by
 unfold dH
 rw [jL,jL,List.append_assoc]; rfl
theorem Nm {r:Row} (g:Good r.1):32 ∉ L (dH r):=fun hc=>by
 rw [Im] at hc
 rcases List.mem_append.mp hc with hc | hc
 . exact gM g (by omega) hc
 . rcases List.mem_cons.mp hc with e | hc
   . omega
   . exact gG r.2 (by omega) hc
theorem FP:∀ ws:List (List Nat),jn [32] ([] :: ws)=(ws.map (32 :: ·)).flatten
 | []=>rfl
 | [w]=>by simp [jn]
 | w :: v :: r=>by
   have z:=FP (v :: r)
   show 32 :: (w++(32 :: jn [32] (v :: r)))=(32 :: w)++((v :: r).map (32 :: ·)).flatten
   rw [<- z]
   rfl
theorem RN (rs:List Row):cW rs=Str.join ⟨#[32]⟩ (("" : Str) :: rs.map dH):=TP.ext (by
 rw [RG,fQ,List.map_cons,gQ.2.2.2.2.2.2.2.2]
 show _=jn [32] ([] :: (rs.map dH).map L)
 rw [FP,List.map_map,List.map_map]
 congr 1
 refine List.map_congr_left fun r _=>?_
 show L (jN r)=32 :: L (dH r)
 rw [Ka,Im])
theorem uT {rs:List Row} (g:∀ r∈rs,Good r.1):Txt.split (cW rs) " " = ("" : Str) :: rs.map dH:=by
 rw [Ig.1,RN]
 refine tZ (by simp) fun t ht=>?_
 rcases List.mem_cons.mp ht with rfl | ht
 . rw [gQ.2.2.2.2.2.2.2.2]; simp
 . obtain ⟨r,hr,rfl⟩:=List.mem_map.mp ht
   exact Nm (g r hr)
theorem uU {r:Row} (g:Good r.1):Txt.partition (dH r) "@" = (r.1,("@" : Str),bV r.2):=by
 rw [Ig.2.1]
 exact DX rfl (gM g (by omega))
section
variable {H1:Hp} {D:Addr} {σ0:St} {g:BI->TG} {te:BI->TE} {End:Hp->Prop} {α β:Type}
theorem yw {K:PySem.W.Frag} {R':Hp->V->β->Prop} {a:Addr} {xs:List V} {bs:List α} {f:α->V} {k:α->β} (mono:∀ {H H':Hp} {v b},fO H H'->R' H v b->R' H' v b) (hD:H1 D=none) (hT:H1 a=some (.lst xs)) (few:xs.length<=1000) (ex:xs=bs.map f)
   (turn:∀ (c:α) (H':Hp),c∈bs->Same H1 H'->∀ b (Q:VK),(∀ v fP,Same H' fP->R' fP v (k c)->Q v fP)->g b (f c) σ0 H' fun σ2 H2=>te b σ2 H2 Q)
   (fin:∀ vs H',Same H1 H'->H' D=some (.lst vs)->Paired (R' H') vs (bs.map k)->End H') :
   ∃ W:Nat->Nat->Hp->Prop,(∃ m,W 0 m (upd H1 D (.lst [])))/\∀ b,oU (Wk K a) (g b) (Bg) (qm D (te b)) σ0 End W :=
 zH (xs:=xs) (fun i H'=>∃ zs,eE H1 H' D zs/\Paired (R' H') zs ((bs.take i).map k)) ⟨[],eE.start hD,.nil⟩ (fun i H' _ hz=>by obtain ⟨_,G,_⟩:=hz; exact dw.of (G.same _ _ hT)) (fun H' hz=>by
   obtain ⟨zs,G,pz⟩:=hz
   rw [ex,List.length_map,List.take_length] at pz
   exact fin zs H' G.same G.at' pz) (fun i x H' hx hi hz b=>by
   obtain ⟨zs,G,pz⟩:=hz
   rw [ex,List.getElem?_map] at hx
   obtain ⟨c,hc,rfl⟩:=Option.map_eq_some_iff.mp hx
   refine turn c H' (List.mem_of_getElem? hc) G.same b _ fun v fP s hv=>?_
   have mR:sizeLine=16777216:=sizeLine_eq
   have lz:=pz.length
   rw [List.length_map,List.length_take] at lz
   have G2:=G.more s
   have tt:fO fP (upd fP D (.lst (zs++[v]))):=fun c ys e=>by rw [aL (fun z=>by rw [z,G2.at'] at e; cases e)]; exact e
   refine ⟨zs,G2.at',by omega,nx hi ⟨zs++[v],G2.put hD v,?_⟩⟩
   rw [List.take_add_one,hc,List.map_append]
   exact cQ (aK (fun _ _ z=>mono (s.tups.trans tt) z) pz) (.cons (mono tt hv) .nil))
end
theorem RP {k:Bool->Hp->Prop} {z y:Str} {H:Hp} (e:z=y) (h:k false H):bF k (.bl (!decide (V.str z=V.str y))) H:=by subst e; rw [decide_eq_true rfl]; exact h
theorem RQ {k:Bool->Hp->Prop} {z y:Str} {H:Hp} (e:z=y) (h:k true H):bF k (.bl (decide (V.str z=V.str y))) H:=by subst e; rw [decide_eq_true rfl]; exact h
theorem Io {k:Bool->Hp->Prop} {z y:Str} {H:Hp} (e:z≠y) (h:k false H):bF k (.bl (decide (V.str z=V.str y))) H:=by rw [decide_eq_false (by simpa using e)]; exact h
def sZ:Sp:=fun vs H Q _=>∃ i:Int,vs=[.str (bV i)]/\Small i/\Q (.int i) H
def Cz:Sp:=fun vs H Q _=>∃ r:Row,vs=[.str (dH r)]/\Good r.1/\Small r.2/\∀ v H',dJ H' v r->Same H H'->Q v H'
def CG:Sp:=fun vs H Q _=>∃ rs:List Row,vs=[.str (cW rs)]/\rs.length<=25/\(∀ r∈rs,Good r.1/\Small r.2)/\∀ v H',jf H' v rs->Same H H'->Q v H'
section
variable {P:Program} {w:World} {K:PySem.W.Frag} {mg:Str->Option Value} {base:Heap} {t8 t6 tR tL:Tok}
theorem FQ:bx ["word","number"] ["word"] (aq ur):=⟨rfl,rfl,rfl,by decide +kernel,rfl,by decide +kernel,by decide +kernel⟩
theorem RT {f:Addr} {fd:FuncData} (F:lH K "read_number" "read_number" ur f fd) (T:Txt mg t8 t6 tR tL):aQ P w K mg base cC 1 f fd ["word"] sZ:=by
 refine F.ok FQ (fun vs H Q E h=>?_) (fun cdv A outer s H vs Q E hr h=>?_)
 . obtain ⟨i,rfl,_⟩:=h
   rfl
 . obtain ⟨i,rfl,sm,q⟩:=h
   refine ⟨_,(au (Qh (aF (aX (i:=1) FQ.nd rfl (Or.inl rfl) (cZ yX rfl T.int PyProof.Rows.boot_int (aj (pV 0) ak))))) (aF (aW (rM (pN v7 (cZ rY rfl T.str PyProof.Rows.boot_str (aj (pV 1) ak)) (pV 0) (bw _)) (pV 1) (pV 0))))),?_⟩
   have ln:=fY sm
   refine ⟨bV i,i,rfl,num_reads sm,by omega,?_⟩
   refine .inl ⟨i,rfl,nT sm,?_⟩
   exact ⟨rfl,RQ rfl q⟩
theorem tu:bx ["word","name","sign","reading"] ["word"] (aq uw):=⟨rfl,rfl,rfl,by decide +kernel,rfl,by decide +kernel,by decide +kernel⟩
theorem RV {f je:Addr} {fd jF:FuncData} (F:lH K "read_row" "read_row" uw f fd)
   (lC:aQ P w K mg base cC 1 je jF ["word"] sZ) (lD:mg "read_number" = some (.ref je)) (lE:PySem.W.keepIn K (.ref je)=true) (lF:Binds K jF ["word"] []):aQ P w K mg base cC 2 f fd ["word"] Cz:=by
 refine F.ok tu (fun vs H Q E h=>?_) (fun cdv A outer s H vs Q E hr h=>?_)
 . obtain ⟨r,rfl,_⟩:=h
   rfl
 . obtain ⟨r,rfl,g,sm,q⟩:=h
   have mR:sizeLine=16777216:=sizeLine_eq
   have n1:=g.hi
   have n2:=fY sm
   have lw:(dH r).length<=100:=by
     have e:(L (dH r)).length=(dH r).length:=L2.len_list _
     have e1:(L r.1).length=r.1.length:=L2.len_list _
     have e2:(L (bV r.2)).length=(bV r.2).length:=L2.len_list _
     rw [Im,List.length_append,List.length_cons] at e
     omega
   refine ⟨_,(au (jZ (gA PySem.F.plainAttrs_str PySem.F.slot_str_partition PySem.F.type_str_partition rW (pV 0) (aj bJ ak)) (dU rfl (aH (aC (i:=1) tu.nd rfl (Or.inl rfl)) (aH (aC (i:=2) tu.nd rfl (Or.inl rfl)) (aH (aC (i:=3) tu.nd rfl (Or.inl rfl)) cN))))) (aF (aW (dD (aj (pV 1) (aj (aD lC hr rfl lD lE lF .nil aR (aj (pV 3) ak)) ak)))))),?_⟩
   refine ⟨rfl,dH r,"@",rfl,rfl,by decide +kernel,by omega,fun p hp=>?_⟩
   rw [uU g]
   have s1:Same H (upd H p (.tup [.str r.1,.str "@",.str (bV r.2)])):=(Same.refl H).upd hp
   refine ⟨p,_,rfl,bU.of ao,rfl,_,_,rfl,_,_,rfl,_,_,rfl,rfl,?_⟩
   refine ⟨r.2,rfl,sm,?_⟩
   refine ⟨by show 2<=sizeLine; omega,fun p2 hp2=>?_⟩
   exact q _ _ ⟨p2,rfl,ao⟩ (s1.upd hp2)
theorem FT:bx ["part","words"] ["part"] (aq qQ):=⟨rfl,rfl,rfl,by decide +kernel,rfl,by decide +kernel,by decide +kernel⟩
theorem RW {f CJ:Addr} {fd FW:FuncData} (F:lH K "read_run" "read_run" qQ f fd) (T:Txt mg t8 t6 tR tL)
   (Vx:aQ P w K mg base cC 2 CJ FW ["word"] Cz) (Vy:mg "read_row" = some (.ref CJ)) (Vz:PySem.W.keepIn K (.ref CJ)=true) (VB:Binds K FW ["word"] []):aQ P w K mg base cC 3 f fd ["part"] CG:=by
 refine F.ok FT (fun vs H Q E h=>?_) (fun cdv A outer s H vs Q E hr h=>?_)
 . obtain ⟨rs,rfl,_⟩:=h
   rfl
 . obtain ⟨rs,rfl,few,gs,q⟩:=h
   have mR:sizeLine=16777216:=sizeLine_eq
   have lr:=Cv few gs
   refine ⟨_,(au (aX (i:=1) FT.nd rfl (Or.inl rfl) (gA PySem.F.plainAttrs_str PySem.F.slot_str_split PySem.F.type_str_split jB (pV 0) (aj bJ ak))) (au (dz (pN Dh (bR vK (pV 1) aA (fun _ _=>rfl)) bJ (bw _)) (aF (aW tK)) bH) (aF (aW (cZ cF rfl T.tuple PyProof.Rows.boot_tuple (aj (cP (gW:=aq qQ) (own:=["word"]) (cap:=[]) (ix:=[]) rfl rfl ⟨rfl,by decide +kernel,by decide +kernel,by decide +kernel,rfl,by decide +kernel⟩ (pK (cO mY (pV 1) (yQ aA) eY)) (fun b=>(aC (i:=0) (show (["word"]:List Str).Nodup by decide +kernel) rfl (Or.inl rfl))) (fun b=>bZ) (fun b=>(aD Vx hr rfl Vy Vz VB .nil aR (aj (pV 0) ak)))) ak)))))),?_⟩
   refine ⟨rfl,cW rs," ",rfl,rfl,by decide +kernel,by omega,fun l hl=>?_⟩
   rw [uT fun r hr=>(gs r hr).1]
   have s1:Same H (upd H l (.lst ((("" : Str) :: rs.map dH).map V.str))):=(Same.refl H).upd hl
   have e1:upd H l (.lst ((("" : Str) :: rs.map dH).map V.str)) l=some (.lst ((("" : Str) :: rs.map dH).map V.str)):=ao
   generalize upd H l (.lst ((("" : Str) :: rs.map dH).map V.str))=H1 at s1 e1 ⊢
   refine j5 e1 (i:=0) (v:=.str "") (show Ay _ ((0:Nat):Int)=_ from iR rfl) ?_
   refine ⟨rfl,RP rfl ?_⟩
   refine ⟨l,_,rfl,dw.of e1,fun l2 hl2=>?_⟩
   have ec:jP ((("" : Str) :: rs.map dH).map V.str) (some 1) none=(rs.map dH).map V.str:=by
     rw [ahe]; rfl
   rw [ec]
   have s2:Same H1 (upd H1 l2 (.lst ((rs.map dH).map V.str))):=(Same.refl H1).upd hl2
   have e2:upd H1 l2 (.lst ((rs.map dH).map V.str)) l2=some (.lst ((rs.map dH).map V.str)):=ao
   generalize upd H1 l2 (.lst ((rs.map dH).map V.str))=H2 at s2 e2 ⊢
   refine ⟨l2,rfl,⟨_,dw.of e2⟩,fun D hD=>yw (bs:=rs) (f:=fun r=>V.str (dH r)) (k:=id) (R':=dJ) (fun t z=>z.ts t) hD e2 (by rw [List.length_map,List.length_map]; omega) (by rw [List.map_map]; rfl) (fun r H3 hr' s3 b R hR=>?_) (fun zs H3 s3 eD pz=>?_)⟩
   . refine ⟨r,rfl,(gs r hr').1,(gs r hr').2,fun v H4 ra s4=>?_⟩
     exact hR v H4 s4 ra
   . rw [List.map_id] at pz
     have lz:=pz.length
     refine ⟨D,zs,rfl,.inl ⟨dw.of eD,fun p hp=>?_⟩⟩
     have s4:Same H3 (upd H3 p (.tup zs)):=(Same.refl H3).upd hp
     exact q _ _ ⟨p,zs,rfl,ao,aK (fun _ _ z=>z.ts s4.tups) pz⟩ (((s1.trans s2).trans s3).trans s4)
end
end nj
namespace nj
open PySem L2 iG TP
theorem RZ {a b c d e:Str} (h1:32 ∉ L a) (h2:32 ∉ L b) (h3:32 ∉ L c) (h4:32 ∉ L d) (h5:32 ∉ L e):Txt.split (Str.join " " [a,b,c,d,e]) " " = [a,b,c,d,e]:=by
 rw [Ig.1]
 refine tZ (by simp) fun t ht=>?_
 simp only [List.mem_cons,List.not_mem_nil,or_false] at ht
 rcases ht with rfl | rfl | rfl | rfl | rfl <;> assumption
theorem tD:32 ∉ L ("house" : Str)/\32 ∉ L ("letter" : Str)/\58 ∉ L ("house" : Str)/\10 ∉ L ("house" : Str)/\10 ∉ L ("letter" : Str):=by
 rw [gQ.2.2.2.2.2.2.1,gQ.2.2.2.2.2.2.2.1]
 decide
theorem Ag (o:Option Int) {c:Nat} (h:c≠45/\(c<48∨57<c)):c ∉ L (gH o):=by
 cases o with
 | none=>show c ∉ L ("-" : Str); rw [gQ.2.2.2.2.2.1]; simp; exact h.1
 | some m=>exact gG m h
theorem q9 {h:aB} (g:Cu h):Txt.split (fW h) " " = [("house" : Str),h.name,bV h.low,bV h.high,bV h.aN] :=
 RZ tD.1 (gM g.good.name (by omega)) (gG _ (by omega)) (gG _ (by omega)) (gG _ (by omega))
theorem nU {l:Letter} (g:Fx l):Txt.split (bY l) " " = [("letter" : Str),l.1.1,l.1.2,bV l.2.1,gH l.2.2] :=
 RZ tD.2.1 (gM g.sent (by omega)) (gM g.taken (by omega)) (gG _ (by omega)) (Ag _ (by omega))
theorem Ah {h:aB} (g:Cu h) {c:Nat} (hc:c=58∨c=10):c ∉ L (fW h):=fun z=>by
 unfold fW at z
 rw [fQ] at z
 have lf:=tD
 rcases Cq z with z | ⟨x,hx,z⟩
 . rw [gQ.1] at z; simp at z; omega
 . simp only [List.map_cons,List.map_nil,List.mem_cons,List.not_mem_nil,or_false] at hx
   rcases hx with rfl | rfl | rfl | rfl | rfl
   . rcases hc with rfl | rfl
     . exact lf.2.2.1 z
     . exact lf.2.2.2.1 z
   . exact gM g.good.name (by omega) z
   . exact gG _ (by omega) z
   . exact gG _ (by omega) z
   . exact gG _ (by omega) z
theorem rz {h:aB} (g:Cu h):Txt.partition (cA h) ":" = (fW h,(":" : Str),Str.join " /" (h.runs.map cW)):=by
 rw [Ig.2.2.1]
 refine DX ?_ (Ah g (.inl rfl))
 unfold cA
 rw [Ig.2.2.1]
theorem jX {h:aB} (g:Cu h):(Str.join " /" (h.runs.map cW) = "")↔h.runs=[]:=by
 constructor
 . intro e
   cases er:h.runs with
   | nil=>rfl
   | cons r rest =>
     exfalso
     have hm:r∈h.runs:=by rw [er]; exact List.mem_cons_self
     have ne:=(g.good.runs r hm).ne
     obtain ⟨q,l,rfl⟩:=List.exists_cons_of_ne_nil ne
     have z:=congrArg L e
     rw [fQ,er,List.map_cons,List.map_cons,RG,List.map_cons,List.flatten_cons,Ka,gQ.2.2.2.2.2.2.2.2] at z
     cases hr:(rest.map cW).map L with
     | nil=>rw [hr] at z; simp [jn] at z
     | cons _ _=>rw [hr] at z; simp [jn] at z
 . intro e
   rw [e]
   exact TP.ext (by rw [fQ,gQ.2.2.2.2.2.2.2.2]; rfl)
theorem rA {h:aB} (g:Cu h) (ne:h.runs≠[]):Txt.split (Str.join " /" (h.runs.map cW)) " /" = h.runs.map cW:=by
 rw [Ig.2.2.2.2]
 refine LC (fun z=>ne (List.map_eq_nil_iff.mp z)) fun t ht=>?_
 obtain ⟨rs,hr,rfl⟩:=List.mem_map.mp ht
 exact Fv (fun r h1=>(g.run hr r h1).1) (.inl rfl)
theorem tE (h:aB):Txt.startswith (cA h) "house " = true:=by
 have e:L (cA h)=[104,111,117,115,101,32]++(L h.name++(32 :: (L (bV h.low)++(32 :: (L (bV h.high)++(32 :: (L (bV h.aN)++(58 :: L (Str.join " /" (h.runs.map cW)))))))))):=by
   unfold cA fW
   simp only [jL,fQ,List.map_cons,List.map_nil,jn,gQ.1,gQ.2.2.1,gQ.2.2.2.2.2.2.1,List.append_assoc]
   rfl
 have el:(L (cA h)).length=(cA h).length:=L2.len_list _
 unfold Txt.startswith
 rw [Bool.and_eq_true]
 constructor
 . rw [e,List.length_append] at el
   have:("house " : Str).length=6:=lens.2.2.2.2.2.2.1
   have e6:([104,111,117,115,101,32]:List Nat).length=6:=rfl
   rw [this]
   exact decide_eq_true (by omega)
 . rw [StrLaws.subAt_eq]
   show (((L (cA h)).drop 0).take ("house " : Str).length == L ("house " : Str))=true
   rw [lens.2.2.2.2.2.2.1,Vr.1,List.drop_zero,e]
   simp
theorem qz (l:Letter):Txt.startswith (bY l) "house " = false:=by
 have e:∃ r,L (bY l)=108 :: r:=⟨_,by
   unfold bY
   simp only [fQ,List.map_cons,List.map_nil,jn,gQ.2.2.2.2.2.2.2.1]
   rfl⟩
 obtain ⟨r,e⟩:=e
 unfold Txt.startswith
 rw [Bool.and_eq_false_iff]
 right
 rw [StrLaws.subAt_eq]
 show (((L (bY l)).drop 0).take ("house " : Str).length == L ("house " : Str))=false
 rw [lens.2.2.2.2.2.2.1,Vr.1,List.drop_zero,e]
 simp
theorem op5 {k:Bool->Hp->Prop} {σ:St} {n:Nat} {H:Hp} (e:n=5) (h:k false H):tC (V.int 5) σ H (fun y H2=>fI (fun i j=>V.bl (!decide (i=j))) (V.int (n:Int)) y H2 (bF k)):=by subst e; exact h
def uV:Sp:=fun vs H Q _=>∃ h:aB,vs=[.str (cA h)]/\Cu h/\∀ v H',dI H' v h->Same H H'->Q v H'
def rB:Sp:=fun vs H Q _=>∃ l:Letter,vs=[.str (bY l)]/\Fx l/\∀ v H',dM H' v l->Same H H'->Q v H'
def Ip:Sp:=fun vs H Q _=>∃ (x:V) (hs:List aB) (ls:List Letter) (t:Str),vs=[x,.str t]/\bM H x hs ls/\hs.length<=6/\ls.length<=24 /\
 ((∃ h,t=cA h/\Cu h/\ls=[]/\∀ v H',bM H' v (hs++[h]) []->Same H H'->Q v H')∨∃ l,t=bY l/\Fx l/\∀ v H',bM H' v hs (ls++[l])->Same H H'->Q v H')
section
variable {P:Program} {w:World} {K:PySem.W.Frag} {mg:Str->Option Value} {base:Heap} {t8 t6 tR tL:Tok}
theorem jq:bx ["row","head","colon","rest","words","runs"] ["row"] (aq j9):=⟨rfl,rfl,rfl,by decide +kernel,rfl,by decide +kernel,by decide +kernel⟩
theorem Ir {f CK je:Addr} {fd FZ jF:FuncData} (F:lH K "read_house" "read_house" j9 f fd) (T:Txt mg t8 t6 tR tL)
   (VD:aQ P w K mg base cC 3 CK FZ ["part"] CG) (VF:mg "read_run" = some (.ref CK)) (VG:PySem.W.keepIn K (.ref CK)=true) (VH:Binds K FZ ["part"] [])
   (lC:aQ P w K mg base cC 3 je jF ["word"] sZ) (lD:mg "read_number" = some (.ref je)) (lE:PySem.W.keepIn K (.ref je)=true) (lF:Binds K jF ["word"] []):aQ P w K mg base cC 4 f fd ["row"] uV:=by
 refine F.ok jq (fun vs H Q E h=>?_) (fun cdv A outer s H vs Q E hr h=>?_)
 . obtain ⟨h,rfl,_⟩:=h
   rfl
 . obtain ⟨h,rfl,g,q⟩:=h
   have mR:sizeLine=16777216:=sizeLine_eq
   have l1:=Af g
   have l2:=yj g
   have l3:=yp g
   have few:=g.good.few
   refine ⟨_,(au (jZ (gA PySem.F.plainAttrs_str PySem.F.slot_str_partition PySem.F.type_str_partition rW (pV 0) (aj bJ ak)) (dU rfl (aH (aC (i:=1) jq.nd rfl (Or.inl rfl)) (aH (aC (i:=2) jq.nd rfl (Or.inl rfl)) (aH (aC (i:=3) jq.nd rfl (Or.inl rfl)) cN))))) (au (aX (i:=4) jq.nd rfl (Or.inl rfl) (gA PySem.F.plainAttrs_str PySem.F.slot_str_split PySem.F.type_str_split jB (pV 1) (aj bJ ak))) (au (dz (tX (pN v7 (pV 2) bJ (bw _)) (pw_or1 (pN oNe (aP aY rfl T.len PySem.boot_len (aj (pV 4) ak)) aA (bw _)))) (aF (aW tK)) bH) (au (aX (i:=5) jq.nd rfl (Or.inl rfl) (rM (pN v7 (pV 3) bJ (bw _)) (gq ak) (cP (gW:=aq j9) (own:=["part"]) (cap:=[]) (ix:=[]) rfl rfl ⟨rfl,by decide +kernel,by decide +kernel,by decide +kernel,rfl,by decide +kernel⟩ (pK (gA PySem.F.plainAttrs_str PySem.F.slot_str_split PySem.F.type_str_split jB (pV 3) (aj bJ ak))) (fun b=>(aC (i:=0) (show (["part"]:List Str).Nodup by decide +kernel) rfl (Or.inl rfl))) (fun b=>bZ) (fun b=>(aD VD hr rfl VF VG VH .nil aR (aj (pV 0) ak)))))) (aF (aW (dD (aj (bR vK (pV 4) aA (fun _ _=>rfl)) (aj (aD lC hr rfl lD lE lF .nil aR (aj (bR vK (pV 4) aA (fun _ _=>rfl)) ak)) (aj (aD lC hr rfl lD lE lF .nil aR (aj (bR vK (pV 4) aA (fun _ _=>rfl)) ak)) (aj (aD lC hr rfl lD lE lF .nil aR (aj (bR vK (pV 4) aA (fun _ _=>rfl)) ak)) (aj (cZ cF rfl T.tuple PyProof.Rows.boot_tuple (aj (pV 5) ak)) ak)))))))))))),?_⟩
   refine gP fun Uz Cm=>?_
   refine ⟨rfl,cA h,":",rfl,rfl,by decide +kernel,by omega,fun p hp=>?_⟩
   rw [rz g]
   have s1:Same H (upd H p (.tup [.str (fW h),.str ":",.str (Str.join " /" (h.runs.map cW))])):=(Same.refl H).upd hp
   have e1:upd H p (.tup [.str (fW h),.str ":",.str (Str.join " /" (h.runs.map cW))]) p=some (.tup [.str (fW h),.str ":",.str (Str.join " /" (h.runs.map cW))]):=ao
   generalize upd H p (.tup [.str (fW h),.str ":",.str (Str.join " /" (h.runs.map cW))])=H1 at s1 e1 ⊢
   refine ⟨p,_,rfl,bU.of e1,rfl,_,_,rfl,_,_,rfl,_,_,rfl,rfl,?_⟩
   subst Cm
   show oG (qD _ _) _ _ [some (.str (cA h)),some (.str (fW h)),some (.str ":"),some (.str (Str.join " /" (h.runs.map cW))),none,none] H1
   refine gP fun Uz Cm=>?_
   refine ⟨rfl,fW h," ",rfl,rfl,by decide +kernel,by omega,fun w hw=>?_⟩
   rw [q9 g]
   have s2:Same H1 (upd H1 w (.lst ([("house" : Str),h.name,bV h.low,bV h.high,bV h.aN].map V.str))):=(Same.refl H1).upd hw
   have e2:upd H1 w (.lst ([("house" : Str),h.name,bV h.low,bV h.high,bV h.aN].map V.str)) w=some (.lst [.str "house",.str h.name,.str (bV h.low),.str (bV h.high),.str (bV h.aN)]):=ao
   generalize upd H1 w (.lst ([("house" : Str),h.name,bV h.low,bV h.high,bV h.aN].map V.str))=H2 at s2 e2 ⊢
   subst Cm
   show oG (Ar _ _ _) _ _ [some (.str (cA h)),some (.str (fW h)),some (.str ":"),some (.str (Str.join " /" (h.runs.map cW))),some (.ref w),none] H2
   refine ig (fun σ' H'=>σ'=[some (.str (cA h)),some (.str (fW h)),some (.str ":"),some (.str (Str.join " /" (h.runs.map cW))),some (.ref w),none]/\H2=H') (fun U hU=>?_) (fun σ' H' hN=>?_)
   . refine ⟨rfl,Io (show (":" : Str)≠"" by decide +kernel) ?_⟩
     refine ⟨w,_,rfl,.inl (dw.of e2),?_⟩
     refine op5 ?_ ?_
     . rfl
     . exact hU _ _ ⟨rfl,rfl⟩
   obtain ⟨rfl,rfl⟩:=hN
   refine yt (fun σ' H'=>∃ (l:Addr) (zs:List V),σ'=[some (.str (cA h)),some (.str (fW h)),some (.str ":"),some (.str (Str.join " /" (h.runs.map cW))),some (.ref w),some (.ref l)]/\H' l=some (.lst zs)/\Paired (jf H') zs h.runs/\Same H2 H') (fun U hU=>?_) (fun σ' H3 hN=>?_)
   . by_cases er:h.runs=[]
     . refine ⟨rfl,RQ ((jX g).mpr er) ?_⟩
       refine ⟨Nat.zero_le _,fun l hl=>?_⟩
       exact hU _ _ ⟨l,[],rfl,ao,by rw [er]; exact .nil,(Same.refl H2).upd hl⟩
     . refine ⟨rfl,Io (fun z=>er ((jX g).mp z)) ?_⟩
       refine ⟨rfl,Str.join " /" (h.runs.map cW)," /",rfl,rfl,by decide +kernel,by omega,fun l hl=>?_⟩
       rw [rA g er]
       have s3:Same H2 (upd H2 l (.lst ((h.runs.map cW).map V.str))):=(Same.refl H2).upd hl
       have e3:upd H2 l (.lst ((h.runs.map cW).map V.str)) l=some (.lst ((h.runs.map cW).map V.str)):=ao
       generalize upd H2 l (.lst ((h.runs.map cW).map V.str))=H3 at s3 e3 ⊢
       refine ⟨l,rfl,⟨_,dw.of e3⟩,fun D hD=>yw (bs:=h.runs) (f:=fun r=>V.str (cW r)) (k:=id) (R':=jf) (fun t z=>z.ts t) hD e3 (by rw [List.length_map,List.length_map]; omega) (by rw [List.map_map]; rfl) (fun r H4 hr' s4 b R hR=>?_) (fun zs H4 s4 eD pz=>?_)⟩
       . refine ⟨r,rfl,(g.good.runs r hr').few,g.run hr',fun v H5 ra s5=>?_⟩
         exact hR v H5 s5 ra
       . rw [List.map_id] at pz
         exact hU _ _ ⟨D,zs,rfl,eD,pz,s3.trans s4⟩
   . obtain ⟨l,zs,rfl,el,pz,s3⟩:=hN
     have e3:=s3 _ _ e2
     have lz:=pz.length
     refine j5 e3 (i:=1) (v:=.str h.name) (by rfl) ?_
     refine j5 e3 (i:=2) (v:=.str (bV h.low)) (by rfl) ?_
     refine ⟨h.low,rfl,g.small.low,?_⟩
     refine j5 e3 (i:=3) (v:=.str (bV h.high)) (by rfl) ?_
     refine ⟨h.high,rfl,g.small.high,?_⟩
     refine j5 e3 (i:=4) (v:=.str (bV h.aN)) (by rfl) ?_
     refine ⟨h.aN,rfl,g.small.aN,?_⟩
     refine ⟨l,zs,rfl,.inl ⟨dw.of el,fun p5 Zu=>?_⟩⟩
     have s4:Same H3 (upd H3 p5 (.tup zs)):=(Same.refl H3).upd Zu
     have e4:upd H3 p5 (.tup zs) p5=some (.tup zs):=ao
     generalize upd H3 p5 (.tup zs)=H4 at s4 e4 ⊢
     refine ⟨by show 5<=sizeLine; omega,fun p6 Ti=>?_⟩
     have s5:Same H4 (upd H4 p6 (.tup [.str h.name,.int h.low,.int h.high,.int h.aN,.ref p5])):=(Same.refl H4).upd Ti
     exact q _ _ ⟨p6,.ref p5,rfl,ao,p5,zs,rfl,s5 _ _ e4,aK (fun _ _ z=>z.ts (s4.trans s5).tups) pz⟩ ((((s1.trans s2).trans s3).trans s4).trans s5)
theorem pI:bx ["row","words","most"] ["row"] (aq jU):=⟨rfl,rfl,rfl,by decide +kernel,rfl,by decide +kernel,by decide +kernel⟩
theorem Ga {f je:Addr} {fd jF:FuncData} (F:lH K "read_letter" "read_letter" jU f fd) (T:Txt mg t8 t6 tR tL)
   (lC:aQ P w K mg base cC 1 je jF ["word"] sZ) (lD:mg "read_number" = some (.ref je)) (lE:PySem.W.keepIn K (.ref je)=true) (lF:Binds K jF ["word"] []):aQ P w K mg base cC 2 f fd ["row"] rB:=by
 refine F.ok pI (fun vs H Q E h=>?_) (fun cdv A outer s H vs Q E hr h=>?_)
 . obtain ⟨l,rfl,_⟩:=h
   rfl
 . obtain ⟨l,rfl,g,q⟩:=h
   have mR:sizeLine=16777216:=sizeLine_eq
   have l1:=yq g
   refine ⟨_,(au (aX (i:=1) pI.nd rfl (Or.inl rfl) (gA PySem.F.plainAttrs_str PySem.F.slot_str_split PySem.F.type_str_split jB (pV 0) (aj bJ ak))) (au (dz (tX (pN oNe (aP aY rfl T.len PySem.boot_len (aj (pV 1) ak)) aA (bw _)) (pw_or1 (pN Dh (bR vK (pV 1) aA (fun _ _=>rfl)) bJ (bw _)))) (aF (aW tK)) bH) (au (aX (i:=2) pI.nd rfl (Or.inl rfl) (rM (pN v7 (bR vK (pV 1) aA (fun _ _=>rfl)) bJ (bw _)) tK (aD lC hr rfl lD lE lF .nil aR (aj (bR vK (pV 1) aA (fun _ _=>rfl)) ak)))) (aF (aW (dD (aj (bR vK (pV 1) aA (fun _ _=>rfl)) (aj (bR vK (pV 1) aA (fun _ _=>rfl)) (aj (aD lC hr rfl lD lE lF .nil aR (aj (bR vK (pV 1) aA (fun _ _=>rfl)) ak)) (aj (pV 2) ak)))))))))),?_⟩
   refine gP fun Uz Cm=>?_
   refine ⟨rfl,bY l," ",rfl,rfl,by decide +kernel,by omega,fun w hw=>?_⟩
   rw [nU g]
   have s2:Same H (upd H w (.lst ([("letter" : Str),l.1.1,l.1.2,bV l.2.1,gH l.2.2].map V.str))):=(Same.refl H).upd hw
   have e2:upd H w (.lst ([("letter" : Str),l.1.1,l.1.2,bV l.2.1,gH l.2.2].map V.str)) w=some (.lst [.str "letter",.str l.1.1,.str l.1.2,.str (bV l.2.1),.str (gH l.2.2)]):=ao
   generalize upd H w (.lst ([("letter" : Str),l.1.1,l.1.2,bV l.2.1,gH l.2.2].map V.str))=H2 at s2 e2 ⊢
   subst Cm
   show oG (Ar _ _ _) _ _ [some (.str (bY l)),some (.ref w),none] H2
   refine ig (fun σ' H'=>σ'=[some (.str (bY l)),some (.ref w),none]/\H2=H') (fun U hU=>?_) (fun σ' H' hN=>?_)
   . refine ⟨w,_,rfl,.inl (dw.of e2),?_⟩
     refine op5 ?_ ?_
     . rfl
     refine j5 e2 (i:=0) (v:=.str "letter") (by rfl) ?_
     exact ⟨rfl,RP rfl (hU _ _ ⟨rfl,rfl⟩)⟩
   obtain ⟨rfl,rfl⟩:=hN
   refine yt (fun σ' H'=>σ'=[some (.str (bY l)),some (.ref w),some (jM l.2.2)]/\H'=H2) (fun U hU=>?_) (fun σ' H3 hN=>?_)
   . refine j5 e2 (i:=4) (v:=.str (gH l.2.2)) (by rfl) ?_
     cases em:l.2.2 with
     | none =>
       rw [em] at hU
       exact ⟨rfl,RQ rfl (hU _ _ ⟨rfl,rfl⟩)⟩
     | some m =>
       rw [em] at hU
       refine ⟨rfl,Io (yh m) ?_⟩
       refine j5 e2 (i:=4) (v:=.str (bV m)) (by rw [em]; rfl) ?_
       exact ⟨m,rfl,g.small.most m em,hU _ _ ⟨rfl,rfl⟩⟩
   . obtain ⟨rfl,rfl⟩:=hN
     refine j5 e2 (i:=1) (v:=.str l.1.1) (by rfl) ?_
     refine j5 e2 (i:=2) (v:=.str l.1.2) (by rfl) ?_
     refine j5 e2 (i:=3) (v:=.str (bV l.2.1)) (by rfl) ?_
     refine ⟨l.2.1,rfl,g.small.least,?_⟩
     refine ⟨by show 4<=sizeLine; omega,fun p6 Ti=>?_⟩
     exact q _ _ ⟨p6,rfl,ao⟩ (s2.upd Ti)
theorem CN:bx ["ledger","row","houses","letters"] ["ledger","row"] (aq zX):=⟨rfl,rfl,rfl,by decide +kernel,rfl,by decide +kernel,by decide +kernel⟩
theorem VJ {f uW rC:Addr} {fd yx vo:FuncData} (F:lH K "with_row" "with_row" zX f fd) (T:Txt mg t8 t6 tR tL)
   (Np:aQ P w K mg base cC 4 uW yx ["row"] uV) (Nq:mg "read_house" = some (.ref uW)) (Nr:PySem.W.keepIn K (.ref uW)=true) (Nt:Binds K yx ["row"] [])
   (Iu:aQ P w K mg base cC 4 rC vo ["row"] rB) (Iv:mg "read_letter" = some (.ref rC)) (Iw:PySem.W.keepIn K (.ref rC)=true) (Iz:Binds K vo ["row"] []):aQ P w K mg base cC 5 f fd ["ledger","row"] Ip:=by
 refine F.ok CN (fun vs H Q E h=>?_) (fun cdv A outer s H vs Q E hr h=>?_)
 . obtain ⟨x,hs,ls,t,rfl,_⟩:=h
   rfl
 . obtain ⟨x,hs,ls,t,rfl,⟨a,y,z,rfl,ha,⟨c,vh,rfl,hc,ph⟩,⟨c2,vl,rfl,hc2,pl⟩⟩,h6,ZP,hT⟩:=h
   have mR:sizeLine=16777216:=sizeLine_eq
   have l1:=ph.length
   have l2:=pl.length
   refine ⟨_,(au (jZ (pV 0) (dU rfl (aH (aC (i:=2) CN.nd rfl (Or.inl rfl)) (aH (aC (i:=3) CN.nd rfl (Or.inl rfl)) cN)))) (au (dz (wA (L2.wz (gA PySem.F.plainAttrs_str PySem.F.slot_str_startswith PySem.F.type_str_startswith yW (pV 1) (aj bJ ak))) (pw_and1 (pN oEq (aP aY rfl T.len PySem.boot_len (aj (pV 3) ak)) aA (bw _)))) (aF (aW (dD (aj (bK rT (pV 2) (dD (aj (aD Np hr rfl Nq Nr Nt .nil aR (aj (pV 1) ak)) ak))) (aj (pV 3) ak))))) bH) (aF (aW (dD (aj (pV 2) (aj (bK rT (pV 3) (dD (aj (aD Iu hr rfl Iv Iw Iz .nil aR (aj (pV 1) ak)) ak))) ak))))))),?_⟩
   refine ⟨a,_,rfl,bU.of ha,rfl,_,_,rfl,_,_,rfl,rfl,?_⟩
   rcases hT with ⟨h,rfl,g,rfl,q⟩ | ⟨l,rfl,g,q⟩
   . cases pl
     refine ⟨rfl,cA h,"house ",rfl,rfl,?_⟩
     rw [tE]
     refine ⟨c2,_,rfl,.inr (bU.of hc2),?_⟩
     refine ⟨h,rfl,g,fun v H1 hv s1=>?_⟩
     refine ⟨by show 1<=sizeLine; omega,fun p1 hp1=>?_⟩
     have s2:Same H1 (upd H1 p1 (.tup [v])):=(Same.refl H1).upd hp1
     have e2:upd H1 p1 (.tup [v]) p1=some (.tup [v]):=ao
     generalize upd H1 p1 (.tup [v])=H2 at s2 e2 ⊢
     refine ⟨c,p1,vh,[v],rfl,rfl,(s1.trans s2) _ _ hc,e2,by rw [List.length_singleton]; omega,fun p3 H3 e3 s3=>?_⟩
     refine ⟨by show 2<=sizeLine; omega,fun p4 J8=>?_⟩
     have s4:Same H3 (upd H3 p4 (.tup [.ref p3,.ref c2])):=(Same.refl H3).upd J8
     have S4:=((s1.trans s2).trans s3).trans s4
     exact q _ _ ⟨p4,.ref p3,.ref c2,rfl,ao,⟨p3,_,rfl,s4 _ _ e3,cQ (aK (fun _ _ z=>z.ts S4.tups) ph) (.cons (hv.ts ((s2.trans s3).trans s4).tups) .nil)⟩,⟨c2,[],rfl,S4 _ _ hc2,.nil⟩⟩ S4
   . refine ⟨rfl,bY l,"house ",rfl,rfl,?_⟩
     rw [qz]
     refine ⟨l,rfl,g,fun v H1 hv s1=>?_⟩
     refine ⟨by show 1<=sizeLine; omega,fun p1 hp1=>?_⟩
     have s2:Same H1 (upd H1 p1 (.tup [v])):=(Same.refl H1).upd hp1
     have e2:upd H1 p1 (.tup [v]) p1=some (.tup [v]):=ao
     generalize upd H1 p1 (.tup [v])=H2 at s2 e2 ⊢
     refine ⟨c2,p1,vl,[v],rfl,rfl,(s1.trans s2) _ _ hc2,e2,by rw [List.length_singleton]; omega,fun p3 H3 e3 s3=>?_⟩
     refine ⟨by show 2<=sizeLine; omega,fun p4 J8=>?_⟩
     have s4:Same H3 (upd H3 p4 (.tup [.ref c,.ref p3])):=(Same.refl H3).upd J8
     have S4:=((s1.trans s2).trans s3).trans s4
     exact q _ _ ⟨p4,.ref c,.ref p3,rfl,ao,⟨c,vh,rfl,S4 _ _ hc,aK (fun _ _ z=>z.ts S4.tups) ph⟩,⟨p3,_,rfl,s4 _ _ e3,cQ (aK (fun _ _ z=>z.ts S4.tups) pl) (.cons (hv.ts ((s2.trans s3).trans s4).tups) .nil)⟩⟩ S4
end
end nj
namespace nj
open PySem L2 iG TP
theorem Nu {hs:List aB} {ls:List Letter} (g:sY hs ls):∀ t∈aG hs ls,10 ∉ L t:=fun t ht=>by
 have lf:=tD
 rcases List.mem_append.mp ht with h | h
 . obtain ⟨x,hx,rfl⟩:=List.mem_map.mp h
   have gx:=g.gR x hx
   intro z
   unfold cA at z
   rw [jL,jL,gQ.2.2.1] at z
   rcases List.mem_append.mp z with z | z
   . rcases List.mem_append.mp z with z | z
     . exact Ah gx (.inr rfl) z
     . simp at z
   . rw [fQ] at z
     rcases Cq z with z | ⟨y,hy,z⟩
     . rw [gQ.2.2.2.2.1] at z; simp at z
     . obtain ⟨t,ht,rfl⟩:=List.mem_map.mp hy
       obtain ⟨rs,hr,rfl⟩:=List.mem_map.mp ht
       exact Fv (fun r h1=>(gx.run hr r h1).1) (.inr (.inl rfl)) z
 . obtain ⟨x,hx,rfl⟩:=List.mem_map.mp h
   have gx:=g.letters x hx
   intro z
   unfold bY at z
   rw [fQ] at z
   rcases Cq z with z | ⟨y,hy,z⟩
   . rw [gQ.1] at z; simp at z
   . simp only [List.map_cons,List.map_nil,List.mem_cons,List.not_mem_nil,or_false] at hy
     rcases hy with rfl | rfl | rfl | rfl | rfl
     . exact lf.2.2.2.2 z
     . exact gM gx.sent (by omega) z
     . exact gM gx.taken (by omega) z
     . exact gG _ (by omega) z
     . exact Ag _ (by omega) z
theorem gO {hs:List aB} {ls:List Letter} (g:sY hs ls) (ne:hs≠[]):Txt.split (cX hs ls) "\n" = aG hs ls:=by
 unfold cX
 rw [Ig.2.2.2.1]
 refine tZ (fun z=>ne ?_) (Nu g)
 unfold aG at z
 exact List.map_eq_nil_iff.mp (List.append_eq_nil_iff.mp z).1
theorem Ai {hs:List aB} (g:bA hs) {i:Nat} (i1:1<=i):bA (hs.take i):=by
 have sub:(hs.take i).Sublist hs:=List.take_sublist _ _
 have ns:(namesOf (hs.take i)).Sublist (namesOf hs):=by
   unfold namesOf
   conv=>rhs; rw [<- List.take_append_drop i hs]
   rw [List.flatMap_append]
   exact List.sublist_append_left _ _
 refine ⟨by rw [List.length_take]; have:=g.lo; omega,Nat.le_trans sub.length_le g.hi,fun h hh=>g.all h (sub.subset hh),(sub.map _).nodup g.names,ns.nodup g.rows,Nat.le_trans ns.length_le g.few⟩
theorem Kd {hs:List aB} {ls:List Letter} (g:aU hs ls) (j:Nat):aU hs (ls.take j) :=
 ⟨Nat.le_trans (List.take_sublist _ _).length_le g.few,fun l hl=>g.all l (List.mem_of_mem_take hl),List.Pairwise.sublist ((List.take_sublist _ _).map _) g.rise⟩
theorem IK (hs:List aB):aU hs []:=⟨Nat.zero_le _,fun l hl=>by simp at hl,List.Pairwise.nil⟩
def rD:Sp:=fun vs H Q _=>∃ (hs:List aB) (ls:List Letter),vs=[.str (cX hs ls)]/\bA hs/\aU hs ls/\sY hs ls/\∀ v H',bM H' v hs ls->Same H H'->Q v H'
def PR (hs:List aB) (ls:List Letter) (H:Hp):Nat->St->Hp->Prop:=fun i σ H'=>∃ (v:V) (o2 o3:Option V),σ=[some (.str (cX hs ls)),some v,o2,o3]/\bM H' v (hs.take i) (ls.take (i-hs.length))/\Same H H'
section
variable {P:Program} {w:World} {K:PySem.W.Frag} {mg:Str->Option Value} {base:Heap} {t8 t6 tR tL:Tok}
theorem jG:bx ["text","ledger","number","row"] ["text"] (aq jV):=⟨rfl,rfl,rfl,by decide +kernel,rfl,by decide +kernel,by decide +kernel⟩
theorem Gb {f IV gJ:Addr} {fd Ke iK:FuncData} (F:lH K "read_ledger" "read_ledger" jV f fd) (T:Txt mg t8 t6 tR tL)
   (ZV:aQ P w K mg base cC 6 IV Ke ["ledger","row"] Ip) (ZW:mg "with_row" = some (.ref IV)) (k_with:PySem.W.keepIn K (.ref IV)=true) (ZX:Binds K Ke ["ledger","row"] [])
   (mG:aQ P w K mg base cC 6 gJ iK ["thing"] (zP jx)) (mH:mg "is_ledger" = some (.ref gJ)) (mJ:PySem.W.keepIn K (.ref gJ)=true) (mK:Binds K iK ["thing"] []):aQ P w K mg base cC 7 f fd ["text"] rD:=by
 refine F.ok jG (fun vs H Q E h=>?_) (fun cdv A outer s H vs Q E hr h=>?_)
 . obtain ⟨hs,ls,rfl,_⟩:=h
   rfl
 . obtain ⟨hs,ls,rfl,gh,gl,g,q⟩:=h
   have mR:sizeLine=16777216:=sizeLine_eq
   have ll:=g.len
   have h6:=g.few
   have ZP:=g.yr
   have h1:=gh.lo
   have hne:hs≠[]:=fun z=>by rw [z] at h1; simp at h1
   obtain ⟨_,_,k3,_⟩:=yU (K:=K) (jJ.str (H:=H) (cX hs ls))
   refine ⟨_,(au (dz (dR (L2.wz (aP iU rfl T.Uw PyProof.Rows.boot_isinstance (aj (pV 0) (aj (jO (v:=.ty "str") rfl T.str PyProof.Rows.boot_str rfl) ak))))) zf bH) (au (aX (i:=1) jG.nd rfl (Or.inl rfl) (dD (aj (dD ak) (aj (dD ak) ak)))) (au (iu PassesOwn.never rfl (Uo rfl T.enumerate (aj (gA PySem.F.plainAttrs_str PySem.F.slot_str_split PySem.F.type_str_split jB (pV 0) (aj bJ ak)) ak)) (dU rfl (aH (aC (i:=2) jG.nd rfl (Or.inl rfl)) (aH (aC (i:=3) jG.nd rfl (Or.inl rfl)) cN))) (au (aX (i:=1) jG.nd rfl (Or.inl rfl) (aD ZV hr rfl ZW k_with ZX .nil aR (aj (pV 1) (aj (pV 3) ak)))) (aF (dz (dR (L2.wz (aD mG hr rfl mH mJ mK .nil aR (aj (pV 1) ak)))) zf bH)))) (aF (aW (pV 1)))))),?_⟩
   refine ⟨_,_,_,_,rfl,.str _,k3,?_⟩
   refine ⟨Nat.zero_le _,fun p1 f1=>?_⟩
   have s1:Same H (upd H p1 (.tup [])):=(Same.refl H).upd f1
   have e1:upd H p1 (.tup []) p1=some (.tup []):=ao
   generalize upd H p1 (.tup [])=H1 at s1 e1 ⊢
   refine ⟨Nat.zero_le _,fun p2 f2=>?_⟩
   have s2:Same H1 (upd H1 p2 (.tup [])):=(Same.refl H1).upd f2
   have e2:upd H1 p2 (.tup []) p2=some (.tup []):=ao
   generalize upd H1 p2 (.tup [])=H2 at s2 e2 ⊢
   refine ⟨by show 2<=sizeLine; omega,fun p3 f3=>?_⟩
   have s3:Same H2 (upd H2 p3 (.tup [.ref p1,.ref p2])):=(Same.refl H2).upd f3
   have e3:upd H2 p3 (.tup [.ref p1,.ref p2]) p3=some (.tup [.ref p1,.ref p2]):=ao
   generalize upd H2 p3 (.tup [.ref p1,.ref p2])=H3 at s3 e3 ⊢
   refine ⟨rfl,cX hs ls,"\n",rfl,rfl,by decide +kernel,by omega,fun l hl=>?_⟩
   rw [gO g hne]
   have s4:Same H3 (upd H3 l (.lst ((aG hs ls).map V.str))):=(Same.refl H3).upd hl
   have e4:upd H3 l (.lst ((aG hs ls).map V.str)) l=some (.lst ((aG hs ls).map V.str)):=ao
   generalize upd H3 l (.lst ((aG hs ls).map V.str))=H4 at s4 e4 ⊢
   have S34:=s3.trans s4
   have S24:=s2.trans S34
   have VL:bM H4 (.ref p3) (hs.take 0) (ls.take (0-hs.length)):=by
     rw [List.take_zero,Nat.zero_sub,List.take_zero]
     exact ⟨p3,.ref p1,.ref p2,rfl,s4 _ _ e3,⟨p1,[],rfl,S24 _ _ e1,.nil⟩,⟨p2,[],rfl,S34 _ _ e2,.nil⟩⟩
   have ahf:(aG hs ls).length=hs.length+ls.length:=by unfold aG; rw [List.length_append,List.length_map,List.length_map]
   refine ⟨l,_,rfl,dw.of e4,Qg (xs:=(aG hs ls).map V.str) (PR hs ls H4) ⟨.ref p3,none,none,rfl,VL,Same.refl H4⟩ (fun i σ H' _ hz=>by obtain ⟨_,_,_,_,_,s⟩:=hz; exact dw.of (s _ _ e4)) (fun i x T σ H5 hx hz fT=>?_) (fun σ H5 hz=>?_)⟩
   . obtain ⟨v,o2,o3,rfl,lat,s5⟩:=hz
     rw [List.getElem?_map] at hx
     obtain ⟨t,ht,rfl⟩:=Option.map_eq_some_iff.mp hx
     have s6:Same H5 (upd H5 T (.tup [.int (i:Int),.str t])):=(Same.refl H5).upd fT
     refine ⟨T,_,rfl,bU.of ao,rfl,_,_,rfl,_,_,rfl,rfl,?_⟩
     generalize upd H5 T (.tup [.int (i:Int),.str t])=H6 at s6 ⊢
     have ltk:(hs.take i).length<=6:=by rw [List.length_take]; omega
     have llk:(ls.take (i-hs.length)).length<=24:=by rw [List.length_take]; omega
     refine ⟨v,hs.take i,ls.take (i-hs.length),t,rfl,lat.ts s6.tups,ltk,llk,?_⟩
     by_cases ii:i<hs.length
     . obtain ⟨h,hh⟩:∃ h,hs[i]?=some h:=⟨_,List.getElem?_eq_getElem ii⟩
       have et:t=cA h:=by
         unfold aG at ht
         rw [List.getElem?_append_left (by rw [List.length_map]; exact ii),List.getElem?_map,hh] at ht
         exact (Option.some.inj ht).symm
       have el:ls.take (i-hs.length)=[]:=by rw [show i-hs.length=0 by omega,List.take_zero]
       have el1:ls.take (i+1-hs.length)=[]:=by rw [show i+1-hs.length=0 by omega,List.take_zero]
       have eh:hs.take (i+1)=hs.take i++[h]:=by rw [List.take_add_one,hh]; rfl
       refine .inl ⟨h,et,g.gR h (List.mem_of_getElem? hh),el,fun v2 H7 uX s7=>?_⟩
       rw [<- eh] at uX
       have gt:=Ai gh (i:=i+1) (by omega)
       refine ⟨v2,_,rfl,uX.da gt (IK _),fun H8 s8=>?_⟩
       rw [ug gt (IK _)]
       exact ⟨v2,_,_,rfl,by rw [el1]; exact uX.ts s8.tups,((s5.trans s6).trans s7).trans s8⟩
     . have lt:=(List.getElem?_eq_some_iff.mp ht).1
       obtain ⟨l',hl'⟩:∃ l',ls[i-hs.length]?=some l':=⟨_,List.getElem?_eq_getElem (by omega)⟩
       have et:t=bY l':=by
         unfold aG at ht
         rw [List.getElem?_append_right (by rw [List.length_map]; omega),List.length_map,List.getElem?_map,hl'] at ht
         exact (Option.some.inj ht).symm
       have eh:hs.take i=hs:=List.take_of_length_le (by omega)
       have eh1:hs.take (i+1)=hs:=List.take_of_length_le (by omega)
       have el:ls.take (i+1-hs.length)=ls.take (i-hs.length)++[l']:=by
         rw [show i+1-hs.length=(i-hs.length)+1 by omega,List.take_add_one,hl']; rfl
       refine .inr ⟨l',et,g.letters l' (List.mem_of_getElem? hl'),fun v2 H7 uX s7=>?_⟩
       rw [<- el,eh] at uX
       have gt:=Kd gl (i+1-hs.length)
       refine ⟨v2,_,rfl,uX.da gh gt,fun H8 s8=>?_⟩
       rw [ug gh gt]
       exact ⟨v2,_,_,rfl,by rw [eh1]; exact uX.ts s8.tups,((s5.trans s6).trans s7).trans s8⟩
   . obtain ⟨v,o2,o3,rfl,lat,s5⟩:=hz
     rw [List.length_map,ahf,List.take_of_length_le (by omega),Nat.add_sub_cancel_left,List.take_length] at lat
     exact q v H5 lat ((s1.trans S24).trans s5)
end
end nj
namespace nj
open PySem L2 iG TP
def Tj (z:Str):Str:=Txt.slice z none (some 6)++"qz"
theorem Z0 (n:Nat):(Builtin.Str.strSliceIndices none (some 6) 1 n).length<=6:=by
 unfold Builtin.Str.strSliceIndices sliceRange
 simp only [show (1:Int) > 0 by decide,if_true,List.length_map,List.length_range]
 split <;> (try simp only [Int.ediv_one]) <;> omega
theorem Nv (z:Str):(L (Txt.slice z none (some 6))).length<=6:=by
 have e:(L (Txt.slice z none (some 6))).length=(Txt.slice z none (some 6)).length:=L2.len_list _
 rw [e]
 have h6:=Z0 z.length
 unfold Txt.slice
 split
 . rename_i h
   have:=eq_of_beq (Bool.and_eq_true_iff.mp h).2
   omega
 . show (List.filterMap _ (Builtin.Str.strSliceIndices none (some 6) 1 z.length)).toArray.size<=6
   rw [List.size_toArray]
   exact Nat.le_trans (List.length_filterMap_le _ _) h6
theorem Ny {z:Str} {c:Nat} (h:c∈L (Txt.slice z none (some 6))):c∈L z:=by
 unfold Txt.slice at h
 split at h
 . exact h
 . have h':c∈(List.filterMap (z.cps[·]?) (Builtin.Str.strSliceIndices none (some 6) 1 z.length)).toArray.toList:=h
   rw [List.toList_toArray] at h'
   obtain ⟨i,_,hi⟩:=List.mem_filterMap.mp h'
   exact Array.mem_toList_iff.mpr (Array.mem_of_getElem? hi)
theorem ahg:L ("qz" : Str)=[113,122]:=by decide +kernel
theorem pJ {z:Str} (g:Good z):Good (Tj z):=by
 have e:(L (Tj z)).length=(Tj z).length:=L2.len_list _
 have el:L (Tj z)=L (Txt.slice z none (some 6))++[113,122]:=by unfold Tj; rw [jL,ahg]
 have h6:=Nv z
 rw [el,List.length_append] at e
 have e2:([113,122]:List Nat).length=2:=rfl
 refine ⟨by omega,by omega,fun c hc=>?_⟩
 have hc':c∈L (Tj z):=hc
 rw [el] at hc'
 rcases List.mem_append.mp hc' with h | h
 . exact g.all c (Ny h)
 . simp only [List.mem_cons,List.not_mem_nil,or_false] at h
   rcases h with rfl | rfl <;> decide
def clR (r:Row):Row:=(Tj r.1,r.2)
def Xc (h:aB):aB:=⟨Tj h.name,h.low,h.high,h.aN,h.runs.map fun r=>r.map clR⟩
def clL (l:Letter):Letter:=((Tj l.1.1,Tj l.1.2),l.2)
theorem R0 {h:aB} (g:bL h):bL (Xc h):=by
 refine ⟨pJ g.name,g.wide,g.aN,?_,fun r hr=>?_⟩
 . show (h.runs.map _).length<=25
   rw [List.length_map]; exact g.few
 . obtain ⟨r0,h0,rfl⟩:=List.mem_map.mp hr
   have gr:=g.runs r0 h0
   refine ⟨fun e=>gr.ne (List.map_eq_nil_iff.mp e),by rw [List.length_map]; exact gr.few,fun q hq=>?_,?_⟩
   . obtain ⟨q0,hq0,rfl⟩:=List.mem_map.mp hq
     exact pJ (gr.names q0 hq0)
   . rw [List.map_map]
     exact gr.rise
theorem Z1 {h:aB} (g:Cu h):Cu (Xc h):=by
 refine ⟨R0 g.good,⟨g.small.low,g.small.high,g.small.aN,fun r hr=>?_⟩⟩
 have hr':r∈(h.runs.map fun r=>r.map clR).flatten:=hr
 obtain ⟨l,hl,hq⟩:=List.mem_flatten.mp hr'
 obtain ⟨l0,h0,rfl⟩:=List.mem_map.mp hl
 obtain ⟨q0,hq0,rfl⟩:=List.mem_map.mp hq
 exact g.small.rows q0 (List.mem_flatten.mpr ⟨l0,h0,hq0⟩)
theorem R3 {l:Letter} (g:Fx l):Fx (clL l):=⟨pJ g.sent,pJ g.taken,⟨g.small.least,g.small.most⟩⟩
theorem Z2 {hs:List aB} {ls:List Letter} (g:sY hs ls):sY (hs.map Xc) (ls.map clL):=by
 refine ⟨by rw [List.length_map]; exact g.few,by rw [List.length_map]; exact g.yr,fun h hh=>?_,fun l hl=>?_⟩
 . obtain ⟨k,hk,rfl⟩:=List.mem_map.mp hh
   exact Z1 (g.gR k hk)
 . obtain ⟨k,hk,rfl⟩:=List.mem_map.mp hl
   exact R3 (g.letters k hk)
section
variable {H1:Hp} {D:Addr} {σ0:St} {g:BI->TG} {te:BI->TE} {End:Hp->Prop} {α β:Type}
theorem Aj {K:PySem.W.Frag} {R:V->α->Prop} {R':Hp->V->β->Prop} {a:Addr} {xs:List V} {bs:List α} {f:α->β} (mono:∀ {H H':Hp} {v b},fO H H'->R' H v b->R' H' v b) (hD:H1 D=none) (hT:H1 a=some (.tup xs)) (few:xs.length<=1000) (pr:Paired R xs bs)
   (turn:∀ (x:V) (c:α) (H':Hp),c∈bs->R x c->Same H1 H'->∀ b (Q:VK),(∀ v fP,Same H' fP->R' fP v (f c)->Q v fP)->g b x σ0 H' fun σ2 H2=>te b σ2 H2 Q)
   (fin:∀ vs H',Same H1 H'->H' D=some (.lst vs)->Paired (R' H') vs (bs.map f)->End H') :
   ∃ W:Nat->Nat->Hp->Prop,(∃ m,W 0 m (upd H1 D (.lst [])))/\∀ b,oU (Td K a) (g b) (Bg) (qm D (te b)) σ0 End W :=
 rR (xs:=xs) (fun i H'=>∃ zs,eE H1 H' D zs/\Paired (R' H') zs ((bs.take i).map f)) ⟨[],eE.start hD,.nil⟩ (fun i H' _ hz=>by obtain ⟨_,G,_⟩:=hz; exact bU.of (G.same _ _ hT)) (fun H' hz=>by
   obtain ⟨zs,G,pz⟩:=hz
   rw [pr.length,List.take_length] at pz
   exact fin zs H' G.same G.at' pz) (fun i x H' hx hi hz b=>by
   obtain ⟨zs,G,pz⟩:=hz
   obtain ⟨c,hc,rc⟩:=bf pr hx
   refine turn x c H' (List.mem_of_getElem? hc) rc G.same b _ fun v fP s hv=>?_
   have mR:sizeLine=16777216:=sizeLine_eq
   have lz:=pz.length
   rw [List.length_map,List.length_take] at lz
   have G2:=G.more s
   have tt:fO fP (upd fP D (.lst (zs++[v]))):=fun c ys e=>by rw [aL (fun z=>by rw [z,G2.at'] at e; cases e)]; exact e
   refine ⟨zs,G2.at',by omega,nx hi ⟨zs++[v],G2.put hD v,?_⟩⟩
   rw [List.take_add_one,hc,List.map_append]
   exact cQ (aK (fun _ _ z=>mono (s.tups.trans tt) z) pz) (.cons (mono tt hv) .nil))
end
def yC:Sp:=fun vs H Q _=>∃ (x:V) (hs:List aB) (ls:List Letter),vs=[x]/\bM H x hs ls/\sY hs ls/\∀ (v:V) (H':Hp),bM H' v (hs.map Xc) (ls.map clL)->Same H H'->Q v H'
def PCa (x:V) (F:Addr) (hs:List aB) (H:Hp):Nat->St->Hp->Prop:=fun i σ H'=>∃ (ws:List V) (o3 o4 o5 o6 o7 o8:Option V),σ=[some x,some (.ref F),o3,o4,o5,o6,o7,o8,none,none,none,none]/\H' F=some (.lst ws)/\Paired (dI H') ws ((hs.take i).map Xc)/\Same H H'
def PCb (x:V) (F M:Addr) (wh:List V) (hs:List aB) (ls:List Letter) (H:Hp):Nat->St->Hp->Prop:=fun i σ H'=>∃ (ws:List V) (o3 o4 o5 o6 o7 o8 o9 qM qu:Option V),σ=[some x,some (.ref F),o3,o4,o5,o6,o7,o8,some (.ref M),o9,qM,qu]/\H' M=some (.lst ws)/\H' F=some (.lst wh)/\Paired (dI H') wh (hs.map Xc)/\Paired (dM H') ws ((ls.take i).map clL)/\Same H H'
section
variable {P:Program} {w:World} {K:PySem.W.Frag} {mg:Str->Option Value} {base:Heap} {t8 t6 tR tL:Tok}
theorem dN:bx ["_law_ledger_here","_law_houses","_law_name","_law_low","_law_high","_law_drift","_law_runs","_law_other","_law_letters_here","_law_one","_law_least","_law_most"] ["_law_ledger_here"] (aq lu):=⟨rfl,rfl,rfl,by decide +kernel,rfl,by decide +kernel,by decide +kernel⟩
theorem Nz {f:Addr} {fd:FuncData} (F:lH K "_law_called" "_law_called" lu f fd) (T:Txt mg t8 t6 tR tL):aQ P w K mg base cC 1 f fd ["_law_ledger_here"] yC:=by
 refine F.ok dN (fun vs H Q E h=>?_) (fun cdv A outer s H vs Q E hr h=>?_)
 . obtain ⟨x,hs,ls,rfl,_⟩:=h
   rfl
 . obtain ⟨x,hs,ls,rfl,⟨a,y,z,rfl,ha,⟨c,vh,rfl,hc,ph⟩,⟨cl,vl,rfl,hcl,pl⟩⟩,g,q⟩:=h
   have mR:sizeLine=16777216:=sizeLine_eq
   have lq:("qz" : Str).length=2:=by decide +kernel
   refine ⟨_,(au (aX (i:=1) dN.nd rfl (Or.inl rfl) (gq ak)) (au (iu PassesOwn.never rfl (cY (bR iV (pV 0) aA (fun _ _=>rfl))) (dU rfl (aH (aC (i:=2) dN.nd rfl (Or.inl rfl)) (aH (aC (i:=3) dN.nd rfl (Or.inl rfl)) (aH (aC (i:=4) dN.nd rfl (Or.inl rfl)) (aH (aC (i:=5) dN.nd rfl (Or.inl rfl)) (aH (aC (i:=6) dN.nd rfl (Or.inl rfl)) cN)))))) (au (GD (i:=7) dN.nd rfl rfl (gW:=aq lu) (own:=["_law_run"]) (cap:=[]) (ix:=[]) rfl rfl ⟨rfl,by decide +kernel,by decide +kernel,by decide +kernel,rfl,by decide +kernel⟩ (cY (pV 6)) (fun b=>(aC (i:=0) (show (["_law_run"]:List Str).Nodup by decide +kernel) rfl (Or.inl rfl))) (fun b=>bZ) (fun b=>(cZ cF rfl T.tuple PyProof.Rows.boot_tuple (aj (cP (gW:=(lU ({ kind:=.function,names:=[(Str.ofString ".0",.local),(Str.ofString "_law_run",.local),(Str.ofString "tuple",.globalImplicit)],isGenerator:=false,isCoroutine:=false }:Scope) (aq lu))) (own:=["_law_row","_law_reading"]) (cap:=[]) (ix:=[]) rfl rfl ⟨rfl,by decide +kernel,by decide +kernel,by decide +kernel,rfl,by decide +kernel⟩ (cY (pV 0)) (fun b=>(dU rfl (aH (aC (i:=0) (show (["_law_row","_law_reading"]:List Str).Nodup by decide +kernel) rfl (Or.inl rfl)) (aH (aC (i:=1) (show (["_law_row","_law_reading"]:List Str).Nodup by decide +kernel) rfl (Or.inl rfl)) cN)))) (fun b=>bZ) (fun b=>(dD (aj (bK Dt (cO wu (pV 0) eY (yQ aA)) bJ) (aj (pV 1) ak))))) ak)))) (aF (mV (gA PySem.F.plainAttrs_list PySem.F.slot_list_append PySem.F.type_list_append ji (pV 1) (aj (dD (aj (bK Dt (cO wu (pV 2) eY (yQ aA)) bJ) (aj (pV 3) (aj (pV 4) (aj (pV 5) (aj (cZ cF rfl T.tuple PyProof.Rows.boot_tuple (aj (pV 7) ak)) ak)))))) ak)))))) (au (aX (i:=8) dN.nd rfl (Or.inl rfl) (gq ak)) (au (iu PassesOwn.never rfl (cY (bR iV (pV 0) aA (fun _ _=>rfl))) (dU rfl (aH (aC (i:=9) dN.nd rfl (Or.inl rfl)) (aH (aC (i:=7) dN.nd rfl (Or.inl rfl)) (aH (aC (i:=10) dN.nd rfl (Or.inl rfl)) (aH (aC (i:=11) dN.nd rfl (Or.inl rfl)) cN))))) (aF (mV (gA PySem.F.plainAttrs_list PySem.F.slot_list_append PySem.F.type_list_append ji (pV 8) (aj (dD (aj (bK Dt (cO wu (pV 9) eY (yQ aA)) bJ) (aj (bK Dt (cO wu (pV 7) eY (yQ aA)) bJ) (aj (pV 10) (aj (pV 11) ak))))) ak))))) (aF (aW (dD (aj (cZ cF rfl T.tuple PyProof.Rows.boot_tuple (aj (pV 1) ak)) (aj (cZ cF rfl T.tuple PyProof.Rows.boot_tuple (aj (pV 8) ak)) ak))))))))),?_⟩
   refine ⟨Nat.zero_le _,fun F fF=>?_⟩
   have s1:Same H (upd H F (.lst [])):=(Same.refl H).upd fF
   refine eG (bU.of (s1 _ _ ha)) (i:=0) (v:=.ref c) (by rfl) ?_
   have h6:=g.few
   have lh:=ph.length
   have h24:=g.yr
   have ll:=pl.length
   refine ⟨c,rfl,⟨_,bU.of (s1 _ _ hc)⟩,mW (xs:=vh) (PCa (.ref a) F hs H) ⟨[],none,none,none,none,none,none,rfl,ao,.nil,s1⟩ (fun i σ H' _ hz=>by obtain ⟨_,_,_,_,_,_,_,_,_,_,s⟩:=hz; exact bU.of (s _ _ hc)) (fun i v σ H2 hv hz=>?_) (fun σ H2 hz=>?_)⟩
   . obtain ⟨ws,o3,o4,o5,o6,o7,o8,rfl,eF,pw,s⟩:=hz
     obtain ⟨hh,hhi,ht⟩:=bf ph hv
     obtain ⟨c1,b1,rfl,e1,c5,vr,rfl,e5,pr⟩:=ht
     have gd:=(g.gR hh (List.mem_of_getElem? hhi)).good
     refine ⟨c1,_,rfl,bU.of (s _ _ e1),rfl,_,_,rfl,_,_,rfl,_,_,rfl,_,_,rfl,_,_,rfl,rfl,?_⟩
     have lr:=pr.length
     have few:=gd.few
     refine ⟨c5,rfl,⟨_,bU.of (s _ _ e5)⟩,fun D hD=>Aj (R':=jf) (f:=fun r:List Row=>r.map clR) (fun t z=>z.ts t) hD (s _ _ e5) (by omega) pr (fun x rs H3 hrs rx s3 bb R hR=>?_) (fun zs H3 s3 eD pz=>?_)⟩
     . obtain ⟨c2,w2,rfl,e2,p2⟩:=rx
       have gr:=(gd.runs rs hrs).few
       have l2:=p2.length
       refine ⟨c2,rfl,⟨_,bU.of ((s.trans s3) _ _ e2)⟩,fun D2 hD2=>Aj (R':=dJ) (f:=clR) (fun t z=>z.ts t) hD2 ((s.trans s3) _ _ e2) (by omega) p2 (fun x r H4 hr' rr s4 bb2 R2 hR2=>?_) (fun zs H4 s4 eD2 pz=>?_)⟩
       . obtain ⟨c3,rfl,e3⟩:=rr
         refine ⟨c3,_,rfl,bU.of (((s.trans s3).trans s4) _ _ e3),rfl,_,_,rfl,_,_,rfl,rfl,?_⟩
         have gn:=(gd.runs rs hrs).names r hr'
         have g8:=gn.hi
         have gc:=(pJ gn).hi
         refine ⟨r.1,rfl,by omega,?_⟩
         refine ⟨by rw [lq]; have:=Txt.slice_le r.1 none (some 6); omega,?_⟩
         refine ⟨by show 2<=sizeLine; omega,fun p hp=>?_⟩
         exact hR2 _ _ ((Same.refl H4).upd hp) ⟨p,rfl,ao⟩
       . have lz:=pz.length
         rw [List.length_map] at lz
         refine ⟨D2,zs,rfl,.inl ⟨dw.of eD2,fun l hl=>?_⟩⟩
         have s5:Same H4 (upd H4 l (.tup zs)):=(Same.refl H4).upd hl
         exact hR _ _ (s4.trans s5) ⟨l,zs,rfl,ao,aK (fun _ _ z=>z.ts s5.tups) pz⟩
     . have eF3:=s3 _ _ eF
       refine ⟨.inl ⟨rfl,_,dw.of eF3⟩,?_⟩
       have g8:=gd.name.hi
       refine ⟨hh.name,rfl,by omega,?_⟩
       refine ⟨by rw [lq]; have:=Txt.slice_le hh.name none (some 6); omega,?_⟩
       refine ⟨D,zs,rfl,.inl ⟨dw.of eD,fun l hl=>?_⟩⟩
       have s5:Same H3 (upd H3 l (.tup zs)):=(Same.refl H3).upd hl
       have e5':upd H3 l (.tup zs) l=some (.tup zs):=ao
       generalize upd H3 l (.tup zs)=H4 at s5 e5' ⊢
       refine ⟨by show 5<=sizeLine; omega,fun p hp=>?_⟩
       have s6:Same H4 (upd H4 p (.tup [.str (Txt.slice hh.name none (some 6)++"qz"),.int hh.low,.int hh.high,.int hh.aN,.ref l])):=(Same.refl H4).upd hp
       have e6:upd H4 p (.tup [.str (Txt.slice hh.name none (some 6)++"qz"),.int hh.low,.int hh.high,.int hh.aN,.ref l]) p=some (.tup [.str (Txt.slice hh.name none (some 6)++"qz"),.int hh.low,.int hh.high,.int hh.aN,.ref l]):=ao
       generalize upd H4 p (.tup [.str (Txt.slice hh.name none (some 6)++"qz"),.int hh.low,.int hh.high,.int hh.aN,.ref l])=H5 at s6 e6 ⊢
       have lw:=pw.length
       rw [List.length_map,List.length_take] at lw
       have eF5:=s6 _ _ (s5 _ _ eF3)
       refine ⟨F,ws,.ref p,rfl,rfl,eF5,by omega,?_⟩
       have tt:fO H5 (upd H5 F (.lst (ws++[.ref p]))):=fun c ys e=>by rw [aL (fun z=>by rw [z,eF5] at e; cases e)]; exact e
       refine ⟨ws++[.ref p],_,_,_,_,_,_,rfl,ao,?_,fun b o e=>by rw [aL (fun z=>by rw [z,fF] at e; cases e)]; exact s6 _ _ (s5 _ _ (s3 _ _ (s _ _ e)))⟩
       rw [List.take_add_one,hhi,List.map_append]
       exact cQ (aK (fun _ _ z=>z.ts (((s3.trans s5).trans s6).tups.trans tt)) pw) (.cons ⟨p,.ref l,rfl,tt _ _ e6,l,zs,rfl,tt _ _ (s6 _ _ e5'),aK (fun _ _ z=>z.ts ((s5.trans s6).tups.trans tt)) pz⟩ .nil)
   . obtain ⟨wh,o3,o4,o5,o6,o7,o8,rfl,eF,pw,s⟩:=hz
     rw [lh,List.take_length] at pw
     refine ⟨Nat.zero_le _,fun M fM=>?_⟩
     have fMH:H M=none:=s.free fM
     have sM:Same H2 (upd H2 M (.lst [])):=(Same.refl H2).upd fM
     refine eG (bU.of ((s.trans sM) _ _ ha)) (i:=1) (v:=.ref cl) (by rfl) ?_
     refine ⟨cl,rfl,⟨_,bU.of ((s.trans sM) _ _ hcl)⟩,mW (xs:=vl) (PCb (.ref a) F M wh hs ls H) ⟨[],o3,o4,o5,o6,o7,o8,none,none,none,rfl,ao,sM _ _ eF,aK (fun _ _ z=>z.ts sM.tups) pw,.nil,s.trans sM⟩ (fun i σ H' _ hz=>by obtain ⟨_,_,_,_,_,_,_,_,_,_,_,_,_,_,_,s⟩:=hz; exact bU.of (s _ _ hcl)) (fun i v σ H3 hv hz=>?_) (fun σ H3 hz=>?_)⟩
     . obtain ⟨ws,o3,o4,o5,o6,o7,o8,o9,qM,qu,rfl,eM,eF3,pwh,pw3,s3⟩:=hz
       obtain ⟨l,hli,ht⟩:=bf pl hv
       obtain ⟨c1,rfl,e1⟩:=ht
       have gl:=g.letters l (List.mem_of_getElem? hli)
       have g1:=gl.sent.hi
       have g2:=gl.taken.hi
       refine ⟨c1,_,rfl,bU.of (s3 _ _ e1),rfl,_,_,rfl,_,_,rfl,_,_,rfl,_,_,rfl,rfl,?_⟩
       refine ⟨.inl ⟨rfl,_,dw.of eM⟩,?_⟩
       refine ⟨l.1.1,rfl,by omega,?_⟩
       refine ⟨by rw [lq]; have:=Txt.slice_le l.1.1 none (some 6); omega,?_⟩
       refine ⟨l.1.2,rfl,by omega,?_⟩
       refine ⟨by rw [lq]; have:=Txt.slice_le l.1.2 none (some 6); omega,?_⟩
       refine ⟨by show 4<=sizeLine; omega,fun p hp=>?_⟩
       have s6:Same H3 (upd H3 p (.tup [.str (Txt.slice l.1.1 none (some 6)++"qz"),.str (Txt.slice l.1.2 none (some 6)++"qz"),.int l.2.1,jM l.2.2])):=(Same.refl H3).upd hp
       have e6:upd H3 p (.tup [.str (Txt.slice l.1.1 none (some 6)++"qz"),.str (Txt.slice l.1.2 none (some 6)++"qz"),.int l.2.1,jM l.2.2]) p=some (.tup [.str (Txt.slice l.1.1 none (some 6)++"qz"),.str (Txt.slice l.1.2 none (some 6)++"qz"),.int l.2.1,jM l.2.2]):=ao
       generalize upd H3 p (.tup [.str (Txt.slice l.1.1 none (some 6)++"qz"),.str (Txt.slice l.1.2 none (some 6)++"qz"),.int l.2.1,jM l.2.2])=H5 at s6 e6 ⊢
       have lw:=pw3.length
       rw [List.length_map,List.length_take] at lw
       have eM5:=s6 _ _ eM
       have nFM:F≠M:=fun e=>by rw [<- e,eF] at fM; cases fM
       refine ⟨M,ws,.ref p,rfl,rfl,eM5,by omega,?_⟩
       have tt:fO H5 (upd H5 M (.lst (ws++[.ref p]))):=fun c ys e=>by rw [aL (fun z=>by rw [z,eM5] at e; cases e)]; exact e
       refine ⟨ws++[.ref p],_,_,_,_,_,_,_,_,_,rfl,ao,by rw [aL nFM]; exact s6 _ _ eF3,aK (fun _ _ z=>z.ts (s6.tups.trans tt)) pwh,?_,fun b o e=>by rw [aL (fun z=>by rw [z,fMH] at e; cases e)]; exact s6 _ _ (s3 _ _ e)⟩
       rw [List.take_add_one,hli,List.map_append]
       exact cQ (aK (fun _ _ z=>z.ts (s6.tups.trans tt)) pw3) (.cons ⟨p,rfl,tt _ _ e6⟩ .nil)
     . obtain ⟨ws,o3,o4,o5,o6,o7,o8,o9,qM,qu,rfl,eM,eF3,pwh,pw3,s3⟩:=hz
       rw [ll,List.take_length] at pw3
       refine ⟨F,wh,rfl,.inl ⟨dw.of eF3,fun p1 f1=>?_⟩⟩
       have s5:Same H3 (upd H3 p1 (.tup wh)):=(Same.refl H3).upd f1
       have e5:upd H3 p1 (.tup wh) p1=some (.tup wh):=ao
       generalize upd H3 p1 (.tup wh)=H4 at s5 e5 ⊢
       refine ⟨M,ws,rfl,.inl ⟨dw.of (s5 _ _ eM),fun p2 f2=>?_⟩⟩
       have s6:Same H4 (upd H4 p2 (.tup ws)):=(Same.refl H4).upd f2
       have e6:upd H4 p2 (.tup ws) p2=some (.tup ws):=ao
       generalize upd H4 p2 (.tup ws)=H5 at s6 e6 ⊢
       refine ⟨by show 2<=sizeLine; omega,fun p hp=>?_⟩
       have s7:Same H5 (upd H5 p (.tup [.ref p1,.ref p2])):=(Same.refl H5).upd hp
       have s57:=(s5.trans s6).trans s7
       exact q _ _ ⟨p,.ref p1,.ref p2,rfl,ao,⟨p1,wh,rfl,(s6.trans s7) _ _ e5,aK (fun _ _ z=>z.ts s57.tups) pwh⟩,⟨p2,ws,rfl,s7 _ _ e6,aK (fun _ _ z=>z.ts s57.tups) pw3⟩⟩ (s3.trans s57)
end
end nj
namespace nj
open PySem L2 iG TP
theorem map_inj {α β:Type} {f:α->β} {p:α->Prop} (hf:∀ a b,p a->p b->f a=f b->a=b):∀ {l m:List α},(∀ a∈l,p a)->(∀ a∈m,p a)->l.map f=m.map f->l=m
 | [],[],_,_,_=>rfl
 | [],_ :: _,_,_,e=>by cases e
 | _ :: _,[],_,_,e=>by cases e
 | a :: l,b :: m,h1,h2,e=>by
   rw [List.map_cons,List.map_cons] at e
   obtain ⟨e1,e2⟩:=List.cons.inj e
   rw [hf a b (h1 a List.mem_cons_self) (h2 b List.mem_cons_self) e1,map_inj hf (fun x hx=>h1 x (List.mem_cons_of_mem _ hx)) (fun x hx=>h2 x (List.mem_cons_of_mem _ hx)) e2]
theorem qj {i j:Int} (si:Small i) (sj:Small j) (e:bV i=bV j):i=j:=by
 have h:=num_reads si
 rw [e,num_reads sj] at h
 exact (Option.some.inj h).symm
theorem R4 {a b:Option Int} (sa:∀ m,a=some m->Small m) (sb:∀ m,b=some m->Small m) (e:gH a=gH b):a=b:=by
 cases a with
 | none=>cases b with
   | none=>rfl
   | some j=>exact absurd e.symm (yh j)
 | some i=>cases b with
   | none=>exact absurd e (yh i)
   | some j=>rw [qj (sa i rfl) (sb j rfl) e]
theorem IW {l m:Letter} (g:Fx l) (g':Fx m) (e:bY l=bY m):l=m:=by
 have h:=nU g
 rw [e,nU g'] at h
 simp only [List.cons.injEq,and_true,true_and] at h
 obtain ⟨h1,h2,h3,h4⟩:=h
 have e3:=qj g'.small.least g.small.least h3
 have e4:=R4 g'.small.most g.small.most h4
 obtain ⟨⟨a,b⟩,c,d⟩:=l
 obtain ⟨⟨a',b'⟩,c',d'⟩:=m
 simp only at h1 h2 e3 e4
 rw [h1,h2,e3,e4]
theorem VN {r q:Row} (g:Good r.1/\Small r.2) (g':Good q.1/\Small q.2) (e:dH r=dH q):r=q:=by
 have h:=uU g.1
 rw [e,uU g'.1] at h
 simp only [Prod.mk.injEq,true_and] at h
 exact Prod.ext h.1.symm (qj g.2 g'.2 h.2.symm)
theorem VP {r q:List Row} (g:∀ x∈r,Good x.1/\Small x.2) (g':∀ x∈q,Good x.1/\Small x.2) (e:cW r=cW q):r=q:=by
 have h:=uT fun x hx=>(g x hx).1
 rw [e,uT fun x hx=>(g' x hx).1] at h
 exact map_inj (p:=fun x:Row=>Good x.1/\Small x.2) (fun a b ga gb e=>VN ga gb e) g g' (List.cons.inj h).2.symm
theorem NK {h k:aB} (g:Cu h) (g':Cu k) (e:cA h=cA k):h=k:=by
 have z:=rz g
 rw [e,rz g'] at z
 simp only [Prod.mk.injEq,true_and] at z
 obtain ⟨z1,z2⟩:=z
 have y:=q9 g
 rw [<- z1,q9 g'] at y
 simp only [List.cons.injEq,and_true,true_and] at y
 obtain ⟨y1,y2,y3,y4⟩:=y
 have e2:=qj g'.small.low g.small.low y2
 have e3:=qj g'.small.high g.small.high y3
 have e4:=qj g'.small.aN g.small.aN y4
 have e5:h.runs=k.runs:=by
   by_cases c:h.runs=[]
   . have c':=(jX g).mpr c
     rw [<- z2] at c'
     rw [c,(jX g').mp c']
   . have c2:k.runs≠[]:=fun w=>by
       have c':=(jX g').mpr w
       rw [z2] at c'
       exact c ((jX g).mp c')
     have w:=rA g c
     rw [<- z2,rA g' c2] at w
     exact map_inj (p:=fun r=>∀ x∈r,Good x.1/\Small x.2) (fun a b ga gb e=>VP ga gb e) (fun r hr=>g.run hr) (fun r hr=>g'.run hr) w.symm
 obtain ⟨a,b,c,d,f⟩:=h
 obtain ⟨a',b',c',d',f'⟩:=k
 simp only at y1 e2 e3 e4 e5
 rw [y1,e2,e3,e4,e5]
theorem R5 {hs hs':List aB} {ls ls':List Letter} (e:aG hs ls=aG hs' ls'):hs.map cA=hs'.map cA/\ls.map bY=ls'.map bY:=by
 have a1:∀ ks:List aB,(ks.map cA).filter (fun t=>Txt.startswith t "house ")=ks.map cA:=fun ks=>List.filter_eq_self.mpr fun t ht=>by
   obtain ⟨k,_,rfl⟩:=List.mem_map.mp ht
   exact tE k
 have a2:∀ ks:List Letter,(ks.map bY).filter (fun t=>Txt.startswith t "house ")=[]:=fun ks=>List.filter_eq_nil_iff.mpr fun t ht=>by
   obtain ⟨k,_,rfl⟩:=List.mem_map.mp ht
   rw [qz k]; decide
 have e1:=congrArg (List.filter fun t=>Txt.startswith t "house ") e
 unfold aG at e1 e
 rw [List.filter_append,List.filter_append,a1,a1,a2,a2,List.append_nil,List.append_nil] at e1
 rw [e1] at e
 exact ⟨e1,List.append_cancel_left e⟩
theorem Ja {hs hs':List aB} {ls ls':List Letter} (g:sY hs ls) (g':sY hs' ls') (ne:hs≠[]) (ne':hs'≠[]) (e:cX hs ls=cX hs' ls'):hs=hs'/\ls=ls':=by
 have h:=gO g ne
 rw [e,gO g' ne'] at h
 obtain ⟨h1,h2⟩:=R5 h
 exact ⟨map_inj (p:=Cu) (fun a b ga gb e=>NK ga gb e) g.gR g'.gR h1.symm,map_inj (p:=Fx) (fun a b ga gb e=>IW ga gb e) g.letters g'.letters h2.symm⟩
mutual
def toPy:Da->PyData
 | .non=>.none
 | .bl b=>.bool b
 | .int i=>.int i
 | .str z=>.str z
 | .tup ds=>.tuple (mL ds)
 | .oth=>.none
def mL:List Da->List PyData
 | []=>[]
 | d :: ds=>toPy d :: mL ds
end
def Tn:Nat->Da->Prop
 | _,.oth=>False
 | _,.str z=>PyData.strOk z=true
 | 0,.tup _=>False
 | n+1,.tup ds=>∀ d∈ds,Tn n d
 | _,_=>True
theorem mO:∀ {n:Nat} {d:Da},Tn n d->Tn (n+1) d
 | 0,.non,_=>trivial
 | 0,.bl _,_=>trivial
 | 0,.int _,_=>trivial
 | 0,.str _,h=>h
 | 0,.tup _,h=>h.elim
 | 0,.oth,h=>h
 | n+1,.non,_=>trivial
 | n+1,.bl _,_=>trivial
 | n+1,.int _,_=>trivial
 | n+1,.str _,h=>h
 | n+1,.tup ds,h=>fun d hd=>mO (h d hd)
 | n+1,.oth,h=>h
theorem R6 {K:PySem.W.Frag} {H:Hp}:∀ {vs:List V} {ds:List Da},dg H vs ds->(∀ v d,d∈ds->bC H v d->Dp K H v (toPy d))->Pa K H vs (mL ds)
 | _,_,.nil,_=>.nil
 | _,_,.cons h r,f=>.cons (f _ _ List.mem_cons_self h) (R6 r fun v d hd=>f v d (List.mem_cons_of_mem _ hd))
theorem Gd {K:PySem.W.Frag} {H:Hp}:∀ {n:Nat} {v:V} {d:Da},bC H v d->Tn n d->Dp K H v (toPy d)
 | n,v,.non,h,_=>by cases h; exact .non
 | n,v,.bl b,h,_=>by cases h; exact .bl b
 | n,v,.int i,h,_=>by cases h; exact .int i
 | n,v,.str z,h,_=>by cases h; exact .str z
 | 0,v,.tup ds,h,c=>c.elim
 | n+1,v,.tup ds,h,c=>by
   obtain ⟨a,vs,rfl,e,_,r⟩:=h.gk
   exact .tup (bU.of e) (R6 r fun v d hd hv=>Gd hv (c d hd))
 | 0,v,.oth,_,c=>c.elim
 | n+1,v,.oth,_,c=>c.elim
theorem Kf:∀ {ds:List Da} {n:Nat},(∀ d∈ds,PyData.canLay0 (toPy d)=true/\PyData.depth (toPy d)<=n)->PyData.canLayAll0 (mL ds)=true/\PyData.depthAll (mL ds)<=n
 | [],n,_=>⟨by unfold mL PyData.canLayAll0; rfl,by unfold mL PyData.depthAll; exact Nat.zero_le _⟩
 | d :: ds,n,h=>by
   obtain ⟨h1,h2⟩:=h d List.mem_cons_self
   obtain ⟨h3,h4⟩:=Kf (ds:=ds) (n:=n) fun e he=>h e (List.mem_cons_of_mem _ he)
   unfold mL
   refine ⟨?_,?_⟩
   . unfold PyData.canLayAll0; rw [h1,h3]; rfl
   . unfold PyData.depthAll; omega
theorem lay_of:∀ {n:Nat} {d:Da},Tn n d->PyData.canLay0 (toPy d)=true/\PyData.depth (toPy d)<=n
 | n,.non,_=>⟨by unfold toPy PyData.canLay0; rfl,by unfold toPy PyData.depth; exact Nat.zero_le _⟩
 | n,.bl b,_=>⟨by unfold toPy PyData.canLay0; rfl,by unfold toPy PyData.depth; exact Nat.zero_le _⟩
 | n,.int i,_=>⟨by unfold toPy PyData.canLay0; rfl,by unfold toPy PyData.depth; exact Nat.zero_le _⟩
 | 0,.str z,h=>⟨by unfold toPy PyData.canLay0; exact h,by unfold toPy PyData.depth; exact Nat.zero_le _⟩
 | n+1,.str z,h=>⟨by unfold toPy PyData.canLay0; exact h,by unfold toPy PyData.depth; exact Nat.zero_le _⟩
 | 0,.tup ds,h=>h.elim
 | n+1,.tup ds,h=>by
   obtain ⟨h1,h2⟩:=Kf (ds:=ds) (n:=n) fun d hd=>lay_of (h d hd)
   refine ⟨?_,?_⟩
   . unfold toPy PyData.canLay0; exact h1
   . unfold toPy PyData.depth; omega
 | 0,.oth,h=>h.elim
 | n+1,.oth,h=>h.elim
theorem ql {n:Nat} {d:Da} (h:Tn n d) (hn:n<=64):SeqAt.shaped (toPy d)=true:=by
 obtain ⟨h1,h2⟩:=lay_of h
 unfold SeqAt.shaped
 rw [h1,Bool.true_and]
 exact decide_eq_true (by omega)
theorem VR {r:Row} (g:Good r.1):Tn 1 (kY r):=fun d hd=>by
 simp only [List.mem_cons,List.not_mem_nil,or_false] at hd
 rcases hd with rfl | rfl
 . exact g.ok
 . trivial
theorem Jb {hs:List aB} (g:bA hs):Tn 5 (bN hs):=fun d hd=>by
 obtain ⟨h,hh,rfl⟩:=List.mem_map.mp hd
 have gh:=g.all h hh
 refine fun e he=>?_
 simp only [List.mem_cons,List.not_mem_nil,or_false] at he
 rcases he with rfl | rfl | rfl | rfl | rfl
 . exact gh.name.ok
 . trivial
 . trivial
 . trivial
 . refine fun r hr=>?_
   obtain ⟨rs,hrs,rfl⟩:=List.mem_map.mp hr
   refine fun q hq=>?_
   obtain ⟨q0,h0,rfl⟩:=List.mem_map.mp hq
   exact VR ((gh.runs rs hrs).names q0 h0)
theorem Ge {hs:List aB} {ls:List Letter} (g:aU hs ls):Tn 2 (bB ls):=fun d hd=>by
 obtain ⟨l,hl,rfl⟩:=List.mem_map.mp hd
 have gl:=g.all l hl
 refine fun e he=>?_
 simp only [List.mem_cons,List.not_mem_nil,or_false] at he
 rcases he with rfl | rfl | rfl | rfl
 . exact gl.sent.ok
 . exact gl.taken.ok
 . trivial
 . cases l.2.2 <;> trivial
theorem nY {hs:List aB} {ls:List Letter} (gh:bA hs) (gl:aU hs ls):Tn 7 (.tup [bN hs,bB ls]):=fun d hd=>by
 simp only [List.mem_cons,List.not_mem_nil,or_false] at hd
 rcases hd with rfl | rfl
 . exact mO (Jb gh)
 . exact mO (mO (mO (mO (Ge gl))))
def NP:Nat->Da->Prop
 | _,.oth=>False
 | _,.bl _=>False
 | 0,.tup _=>False
 | n+1,.tup ds=>∀ d∈ds,NP n d
 | _,_=>True
theorem Kg {n:Nat} (f:∀ d e,NP n d->NP n e->PyData.eqv (toPy d) (toPy e)=true->d=e):∀ {ds es:List Da},(∀ d∈ds,NP n d)->(∀ d∈es,NP n d)->PyData.eqvAll (mL ds) (mL es)=true->ds=es
 | [],[],_,_,_=>rfl
 | [],_ :: _,_,_,h=>by unfold mL PyData.eqvAll at h; cases h
 | _ :: _,[],_,_,h=>by unfold mL PyData.eqvAll at h; cases h
 | d :: ds,e :: es,h1,h2,h=>by
   unfold mL PyData.eqvAll at h
   obtain ⟨a,b⟩:=Bool.and_eq_true_iff.mp h
   rw [f d e (h1 d List.mem_cons_self) (h2 e List.mem_cons_self) a,Kg f (fun x hx=>h1 x (List.mem_cons_of_mem _ hx)) (fun x hx=>h2 x (List.mem_cons_of_mem _ hx)) b]
theorem Z4:∀ {n:Nat} {d e:Da},NP n d->NP n e->PyData.eqv (toPy d) (toPy e)=true->d=e:=by
 intro n
 induction n with
 | zero =>
   intro d e hd he h
   cases d <;> cases e <;> first | exact hd.elim | exact he.elim | (unfold toPy PyData.eqv at h; first | rfl | (cases h; done) | (rw [eq_of_beq h]) | cases h)
 | succ n ih =>
   intro d e hd he h
   cases d <;> cases e <;> first | exact hd.elim | exact he.elim | (unfold toPy PyData.eqv at h; first | rfl | (cases h; done) | (rw [eq_of_beq h]; done) | (rw [Kg (fun d e a b c=>ih a b c) hd he h]) | cases h)
theorem V0 (r:Row):NP 1 (kY r):=fun d hd=>by
 simp only [List.mem_cons,List.not_mem_nil,or_false] at hd
 rcases hd with rfl | rfl <;> trivial
theorem mQ:∀ {n:Nat} {d:Da},NP n d->NP (n+1) d
 | 0,.non,_=>trivial
 | 0,.bl _,h=>h
 | 0,.int _,_=>trivial
 | 0,.str _,_=>trivial
 | 0,.tup _,h=>h.elim
 | 0,.oth,h=>h
 | n+1,.non,_=>trivial
 | n+1,.bl _,h=>h
 | n+1,.int _,_=>trivial
 | n+1,.str _,_=>trivial
 | n+1,.tup ds,h=>fun d hd=>mQ (h d hd)
 | n+1,.oth,h=>h
theorem Jc (hs:List aB):NP 5 (bN hs):=fun d hd=>by
 obtain ⟨h,hh,rfl⟩:=List.mem_map.mp hd
 refine fun e he=>?_
 simp only [List.mem_cons,List.not_mem_nil,or_false] at he
 rcases he with rfl | rfl | rfl | rfl | rfl
 . trivial
 . trivial
 . trivial
 . trivial
 . refine fun r hr=>?_
   obtain ⟨rs,hrs,rfl⟩:=List.mem_map.mp hr
   refine fun q hq=>?_
   obtain ⟨q0,h0,rfl⟩:=List.mem_map.mp hq
   exact V0 q0
theorem Gf (ls:List Letter):NP 2 (bB ls):=fun d hd=>by
 obtain ⟨l,hl,rfl⟩:=List.mem_map.mp hd
 refine fun e he=>?_
 simp only [List.mem_cons,List.not_mem_nil,or_false] at he
 rcases he with rfl | rfl | rfl | rfl
 . trivial
 . trivial
 . trivial
 . cases l.2.2 <;> trivial
theorem yD (hs:List aB) (ls:List Letter):NP 7 (.tup [bN hs,bB ls]):=fun d hd=>by
 simp only [List.mem_cons,List.not_mem_nil,or_false] at hd
 rcases hd with rfl | rfl
 . exact mQ (Jc hs)
 . exact mQ (mQ (mQ (mQ (Gf ls))))
theorem CP {l m:Letter} (e:bO l=bO m):l=m:=by
 obtain ⟨⟨a,b⟩,c,d⟩:=l
 obtain ⟨⟨a',b'⟩,c',d'⟩:=m
 unfold bO at e
 simp only [Da.tup.injEq,List.cons.injEq,Da.str.injEq,Da.int.injEq,and_true] at e
 obtain ⟨rfl,rfl,rfl,e4⟩:=e
 cases d <;> cases d' <;> first | rfl | (cases e4; done) | (cases e4; rfl)
theorem zc {hs hs':List aB} {ls ls':List Letter} (e:Da.tup [bN hs,bB ls]=Da.tup [bN hs',bB ls']):hs=hs'/\ls=ls':=by
 simp only [Da.tup.injEq,List.cons.injEq,and_true,bN,bB] at e
 obtain ⟨e1,e2⟩:=e
 refine ⟨?_,map_inj (p:=fun _=>True) (fun a b _ _ z=>CP z) (fun _ _=>trivial) (fun _ _=>trivial) e2⟩
 have z:=congrArg (List.map bD) e1
 rw [iH,iH] at z
 exact z
theorem alike {hs hs':List aB} {ls ls':List Letter} (gh:bA hs) (gl:aU hs ls) (g:sY hs ls) (g':sY hs' ls') (ne:hs≠[]) (ne':hs'≠[]) :
   decide (V.str (cX hs ls)=V.str (cX hs' ls'))=PyData.eqv (toPy (.tup [bN hs,bB ls])) (toPy (.tup [bN hs',bB ls'])):=by
 by_cases c:hs=hs'/\ls=ls'
 . obtain ⟨rfl,rfl⟩:=c
   rw [decide_eq_true rfl,SeqAt.eqv_refl _ (lay_of (nY gh gl)).1]
 . rw [decide_eq_false (fun e=>c (Ja g g' ne ne' (V.str.inj e)))]
   cases h:PyData.eqv (toPy (.tup [bN hs,bB ls])) (toPy (.tup [bN hs',bB ls']))
   . rfl
   . exact absurd (zc (Z4 (yD _ _) (yD _ _) h)) c
theorem R7 {ks:List (Str × Str)} (h:sE ks=true):ks.Pairwise fun a b=>wH a b=true:=by
 unfold sE at h
 have key:∀ (l:List (Str × Str)),(fU l).all (fun p=>wH p.1 p.2)=true->l.Pairwise fun a b=>wH a b=true:=by
   intro l
   induction l with
   | nil=>intro _; exact List.Pairwise.nil
   | cons x l ih =>
     intro h
     cases l with
     | nil=>exact List.pairwise_singleton _ _
     | cons y l =>
       have h':(wH x y && (fU (y :: l)).all fun p=>wH p.1 p.2)=true:=h
       obtain ⟨h1,h2⟩:=Bool.and_eq_true_iff.mp h'
       have z:=ih h2
       refine List.Pairwise.cons (fun w hw=>?_) z
       rcases List.mem_cons.mp hw with rfl | hw
       . exact h1
       . exact wI.trans _ _ _ h1 ((List.pairwise_cons.mp z).1 w hw)
 exact key ks h
theorem Kh {hs:List aB} {n a:Str} (h:kW (pairsOf hs) n=some a):∃ k∈hs,n∈bQ k/\k.name=a:=by
 unfold kW at h
 obtain ⟨p,hp,rfl⟩:=Option.map_eq_some_iff.mp h
 have m:=List.mem_of_find?_eq_some hp
 have e0:=List.find?_some hp
 have e:p.1=n:=of_decide_eq_true e0
 unfold pairsOf at m
 obtain ⟨k,hk,hm⟩:=List.mem_flatMap.mp m
 unfold cU at hm
 obtain ⟨r,hr,rfl⟩:=List.mem_map.mp hm
 exact ⟨k,hk,List.mem_map.mpr ⟨r,hr,e⟩,rfl⟩
theorem Jd {hs:List aB} (all:∀ h∈hs,bL h) (h:iZ (bN hs)=true):bA hs:=by
 have h':(decide (1<=(hs.map cD).length) && (decide ((hs.map cD).length<=6) && ((hs.map cD).all fV && (decide (((hs.map cD).map bD).map aB.name).Nodup && (decide (namesOf ((hs.map cD).map bD)).Nodup && decide ((namesOf ((hs.map cD).map bD)).length<=24))))))=true:=h
 rw [iH,List.length_map] at h'
 obtain ⟨h1,h'⟩:=Bool.and_eq_true_iff.mp h'
 obtain ⟨h2,h'⟩:=Bool.and_eq_true_iff.mp h'
 obtain ⟨_,h'⟩:=Bool.and_eq_true_iff.mp h'
 obtain ⟨h4,h'⟩:=Bool.and_eq_true_iff.mp h'
 obtain ⟨h5,h6⟩:=Bool.and_eq_true_iff.mp h'
 exact ⟨of_decide_eq_true h1,of_decide_eq_true h2,all,of_decide_eq_true h4,of_decide_eq_true h5,of_decide_eq_true h6⟩
theorem Gg {hs:List aB} {ls:List Letter} (all:∀ l∈ls,Fx l/\1<=l.2.1/\∀ m,l.2.2=some m->l.2.1<=m) (h:j6 hs (bB ls)=true):aU hs ls:=by
 have h':(decide ((ls.map bO).length<=24) && ((ls.map bO).all eZ && ((ls.map bO).all (oA hs) && sE ((ls.map bO).map keyOf))))=true:=h
 obtain ⟨h1,h'⟩:=Bool.and_eq_true_iff.mp h'
 obtain ⟨_,h'⟩:=Bool.and_eq_true_iff.mp h'
 obtain ⟨h3,h4⟩:=Bool.and_eq_true_iff.mp h'
 have h1':=of_decide_eq_true h1
 rw [List.length_map] at h1'
 refine ⟨h1',fun l hl=>?_,?_⟩
 . obtain ⟨g,g3,g4⟩:=all l hl
   have ow:=List.all_eq_true.mp h3 _ (List.mem_map_of_mem (f:=bO) hl)
   unfold oA at ow
   have k1:keyOf (bO l)=l.1:=rfl
   rw [k1] at ow
   split at ow
   . rename_i a b ea eb
     obtain ⟨p,hp,np,rfl⟩:=Kh ea
     obtain ⟨q,hq,nq,rfl⟩:=Kh eb
     exact ⟨g.sent,g.taken,g3,g4,p,hp,q,hq,np,nq,by simpa using ow⟩
   . cases ow
 . have z:=R7 h4
   rw [List.map_map] at z
   exact z
theorem yE {hs:List aB} {ls:List Letter} (all:∀ h∈hs,bL h) (Xd:∀ l∈ls,Fx l/\1<=l.2.1/\∀ m,l.2.2=some m->l.2.1<=m) (h:jx (.tup [bN hs,bB ls])=true):bA hs/\aU hs ls:=by
 have h':(iZ (bN hs) && j6 ((hs.map cD).map bD) (bB ls))=true:=h
 rw [iH] at h'
 obtain ⟨h1,h2⟩:=Bool.and_eq_true_iff.mp h'
 exact ⟨Jd all h1,Gg Xd h2⟩
theorem bM.daA {H:Hp} {v:V} {hs:List aB} {ls:List Letter} (h:bM H v hs ls) (few:hs.length<=25) (yr:ls.length<=25) (all:∀ h∈hs,bL h) (Xd:∀ l∈ls,Fx l):bC H v (.tup [bN hs,bB ls]):=by
 obtain ⟨a,x,y,rfl,e,⟨b,vs,rfl,eb,pb⟩,⟨c,us,rfl,ec,pc⟩⟩:=h
 refine .tup e (show 2<=25 by decide) (.cons ?_ (.cons ?_ .nil))
 . exact .tup eb (by rw [pb.length]; exact few) (jR pb fun v x hx q=>q.da (all x hx))
 . refine .tup ec (by rw [pc.length]; exact yr) (jR pc fun v l hl q=>?_)
   obtain ⟨d,rfl,ed⟩:=q
   refine .tup ed (show 4<=25 by decide) (.cons (Xd l hl).sent.da (.cons (Xd l hl).taken.da (.cons (.int _) (.cons ?_ .nil))))
   cases l.2.2 with
   | none=>exact .non
   | some m=>exact .int m
end nj
namespace L2
open PySem PySem.Spec PyProof.Rows
section
variable {X:Cx}
def V3 (ta:TE):TE:=fun σ H Q=>ta σ H fun x H1=>∃ c,x=.bl c/\Q (.bl (!c)) H1
theorem NQ {a:Expr} {ta:TE} {j pos'} (ha:PE X a ta):PC X .IsNot a (.Constant (.bool true) j pos') (V3 ta):=by
 intro pins s σ H Q I h
 refine d7 (ha pins s σ H _ I h) fun v s1 ⟨x,H1,I1,r1,c,e,q1⟩=>?_
 subst e
 cases r1
 refine Constant_bool ?_
 cases c with
 | false=>exact wpAny_pure ⟨.bl true,H1,I1,rfl,q1⟩
 | true=>exact wpAny_pure ⟨.bl false,H1,I1,rfl,q1⟩
end
end L2
namespace nj
open PySem L2 iG TP
theorem yF {xs:List V} {k:Nat}:jP xs none (some (k:Int))=xs.take k:=by
 unfold jP
 rw [HT.jz,HT.gZ]
 rcases Nat.le_total k xs.length with h | h
 . rw [Nat.min_eq_left h]; simp
 . rw [Nat.min_eq_right h,List.take_of_length_le h]; simp
theorem R8 {xs:List V} {k:Nat}:jP xs (some (k:Int)) none=xs.drop k:=by
 unfold jP
 rw [HT.jz,HT.gZ]
 rcases Nat.le_total k xs.length with h | h
 . rw [Nat.min_eq_left h,List.take_of_length_le (by rw [List.length_drop]; omega)]
 . rw [Nat.min_eq_right h,List.drop_of_length_le h,List.drop_of_length_le (Nat.le_refl _)]; simp
theorem Z5 {k:Bool->Hp->Prop} {b c:Bool} {H:Hp} (e:b=c) (h:k false H):bF k (.bl (!decide (V.bl b=V.bl c))) H:=by subst e; rw [decide_eq_true rfl]; exact h
theorem Gh {hs:List aB} {ls:List Letter} (g:sY hs ls) (i:Nat):sY hs (ls.take i):=⟨g.few,by rw [List.length_take]; have:=g.yr; omega,g.gR,fun l hl=>g.letters l (List.mem_of_mem_take hl)⟩
theorem NT (hs:List aB) (ls:List Letter) (i:Nat):(aG hs ls).take (hs.length+i)=aG hs (ls.take i):=by
 unfold aG
 rw [List.take_append,List.length_map,List.take_of_length_le (by rw [List.length_map]; omega),show hs.length+i-hs.length=i by omega,List.map_take]
theorem R9 {hs hs':List aB} {ls ls':List Letter} (g:sY hs ls) (g':sY hs' ls') (h:(hs++hs').length<=6):sY (hs++hs') ls:=⟨h,g.yr,fun k hk=>(List.mem_append.mp hk).elim (g.gR k) (g'.gR k),g.letters⟩
theorem V4 {hs hs':List aB} {ls:List Letter} (g:aU hs ls):aU (hs++hs') ls:=by
 refine ⟨g.few,fun l hl=>?_,g.rise⟩
 obtain ⟨g1,g2,g3,g4,h1,m1,h2,m2,r⟩:=g.all l hl
 exact ⟨g1,g2,g3,g4,h1,List.mem_append_left _ m1,h2,List.mem_append_left _ m2,r⟩
theorem NZ {hs hs':List aB} {ls ls':List Letter}:(aG hs ls).take hs.length++(aG hs' ls').take hs'.length++(aG hs ls).drop hs.length=aG (hs++hs') ls:=by
 unfold aG
 rw [List.take_append_of_le_length (by rw [List.length_map]; omega),List.take_of_length_le (by rw [List.length_map]; omega),List.take_append_of_le_length (by rw [List.length_map]; omega),List.take_of_length_le (by rw [List.length_map]; omega),List.map_append]
 congr 1
 rw [List.drop_append,List.length_map,List.drop_of_length_le (by rw [List.length_map]; omega),Nat.sub_self,List.drop_zero,List.nil_append]
theorem Je (hs hs':List aB):namesOf (hs++hs')=namesOf hs++namesOf hs':=by unfold namesOf; rw [List.flatMap_append]
def CQ (K:PySem.W.Frag):Sp:=fun vs H Q _=>∃ (x y:V) (hs hs':List aB) (ls ls':List Letter),vs=[x,y]/\bM H x hs ls/\bA hs/\aU hs ls/\sY hs ls/\bM H y hs' ls'/\bA hs'/\aU hs' ls'/\sY hs' ls'/\∀ H',Same H H'->Q (.bl true) H'
def PRt (x y:V) (t:Str) (n:Int) (H:Hp):Nat->St->Hp->Prop:=fun i σ H'=>∃ o4 o5:Option V,σ=[some x,some y,some (.str t),some (.int n),o4,o5,none,none,none,none]/\Same H H'
section
variable {P:Program} {w:World} {K:PySem.W.Frag} {mg:Str->Option Value} {base:Heap} {t8 t6 tR tL:Tok}
theorem jH:bx ["_law_one","_law_other","_law_text","_law_many","_law_size","_law_lesser","_law_both","_law_first","_law_second","_law_joined"] ["_law_one","_law_other"] (aq uz):=⟨rfl,rfl,rfl,by decide +kernel,rfl,by decide +kernel,by decide +kernel⟩
theorem Sg {f rE gJ rF Jf:Addr} {fd vp iK vq Kl:FuncData} (F:lH K "_law_right" "_law_right" uz f fd) (T:Txt mg t8 t6 tR tL)
   (jr:aQ P w K mg base cC 7 rE vp ["ledger"] qY) (jt:mg "show_ledger" = some (.ref rE)) (ju:PySem.W.keepIn K (.ref rE)=true) (jw:Binds K vp ["ledger"] [])
   (mG:aQ P w K mg base cC 7 gJ iK ["thing"] (zP jx)) (mH:mg "is_ledger" = some (.ref gJ)) (mJ:PySem.W.keepIn K (.ref gJ)=true) (mK:Binds K iK ["thing"] [])
   (yG:aQ P w K mg base cC 7 rF vq ["text"] rD) (yH:mg "read_ledger" = some (.ref rF)) (yI:PySem.W.keepIn K (.ref rF)=true) (yJ:Binds K vq ["text"] [])
   (Z6:aQ P w K mg base cC 7 Jf Kl ["_law_ledger_here"] Cp) (Z7:mg "_law_rows" = some (.ref Jf)) (Z8:PySem.W.keepIn K (.ref Jf)=true) (Z9:Binds K Kl ["_law_ledger_here"] []):aQ P w K mg base cC 8 f fd ["_law_one","_law_other"] (CQ K):=by
 refine F.ok jH (fun vs H Q E h=>?_) (fun cdv A outer s H vs Q E hr h=>?_)
 . obtain ⟨x,y,hs,hs',ls,ls',rfl,_⟩:=h
   rfl
 . obtain ⟨x,y,hs,hs',ls,ls',rfl,lat,gh,gl,g,V5,gh',gl',g',q⟩:=h
   have mR:sizeLine=16777216:=sizeLine_eq
   have ne:hs≠[]:=fun e=>by have z:=gh.lo; rw [e] at z; exact absurd z (by decide)
   have ne':hs'≠[]:=fun e=>by have z:=gh'.lo; rw [e] at z; exact absurd z (by decide)
   obtain ⟨a,y1,z1,rfl,ha,hH0,hL0⟩:=id lat
   obtain ⟨c,vh,rfl,hc,ph⟩:=id hH0
   obtain ⟨d,vl,rfl,hd,pl⟩:=id hL0
   obtain ⟨a',y1',z1',rfl,ha',ahj,aqf⟩:=id V5
   obtain ⟨c',vh',rfl,hc',ph'⟩:=id ahj
   have lh:=ph.length
   have ll:=pl.length
   have lh':=ph'.length
   have f6:=g.few
   have f24:=g.yr
   have f6':=g'.few
   have tl:=g.len
   have tl':=g'.len
   refine ⟨_,(au (aX (i:=2) jH.nd rfl (Or.inl rfl) (aD jr hr rfl jt ju jw .nil aR (aj (pV 0) ak))) (au (aX (i:=3) jH.nd rfl (Or.inl rfl) (aP aY rfl T.len PySem.boot_len (aj (bR iV (pV 0) aA (fun _ _=>rfl)) ak))) (au (iu PassesOwn.never rfl (iC rfl T.range (aj (bK fZ (aP aY rfl T.len PySem.boot_len (aj (bR iV (pV 0) aA (fun _ _=>rfl)) ak)) aA) ak)) (aC (i:=4) jH.nd rfl (Or.inl rfl)) (au (aX (i:=5) jH.nd rfl (Or.inl rfl) (aD jr hr rfl jt ju jw .nil aR (aj (dD (aj (bR iV (pV 0) aA (fun _ _=>rfl)) (aj (cO DR (bR iV (pV 0) aA (fun _ _=>rfl)) eY (yQ (pV 4))) ak))) ak))) (aF (dz (tX (pN Dh (pV 5) (gA PySem.F.plainAttrs_str PySem.F.slot_str_join PySem.F.type_str_join rP bJ (aj (cO mY (gA PySem.F.plainAttrs_str PySem.F.slot_str_split PySem.F.type_str_split jB (pV 2) (aj bJ ak)) eY (yQ (bK fZ (pV 3) (pV 4)))) ak)) (bw _)) (pw_or1 (vZ (NQ (aD mG hr rfl mH mJ mK .nil aR (aj (aD yG hr rfl yH yI yJ .nil aR (aj (pV 5) ak)) ak)))))) (aF (aW iQ)) bH)))) (au (dz (pN Dh (gY v7 (aD jr hr rfl jt ju jw .nil aR (aj (pV 0) ak)) (aD jr hr rfl jt ju jw .nil aR (aj (pV 1) ak)) (bw _)) (gY (Pb hr.units) (pV 0) (pV 1) (bw _)) (bw _)) (aF (aW iQ)) bH) (au (aX (i:=6) jH.nd rfl (Or.inl rfl) (dD (aj (bK rT (bR iV (pV 0) aA (fun _ _=>rfl)) (bR iV (pV 1) aA (fun _ _=>rfl))) (aj (bR iV (pV 0) aA (fun _ _=>rfl)) ak)))) (au (dz (wA (pN oLt (aP aY rfl T.len PySem.boot_len (aj (bR iV (pV 6) aA (fun _ _=>rfl)) ak)) aA (bw _)) (pw_and (pN oLt (aP aY rfl T.len PySem.boot_len (aj (aD Z6 hr rfl Z7 Z8 Z9 .nil aR (aj (pV 6) ak)) ak)) aA (bw _)) (pw_and1 (L2.wz (aD mG hr rfl mH mJ mK .nil aR (aj (pV 6) ak)))))) (au (Xy rfl jH.nd (i:=7) (j:=8) rfl rfl (by decide) rfl rfl (aj (gA PySem.F.plainAttrs_str PySem.F.slot_str_split PySem.F.type_str_split jB (pV 2) (aj bJ ak)) (aj (gA PySem.F.plainAttrs_str PySem.F.slot_str_split PySem.F.type_str_split jB (aD jr hr rfl jt ju jw .nil aR (aj (pV 1) ak)) (aj bJ ak)) ak)) rfl) (au (aX (i:=9) jH.nd rfl (Or.inl rfl) (gA PySem.F.plainAttrs_str PySem.F.slot_str_join PySem.F.type_str_join rP bJ (aj (bK Gz (bK Gz (cO mY (pV 7) eY (yQ (pV 3))) (cO mY (pV 8) eY (yQ (aP aY rfl T.len PySem.boot_len (aj (bR iV (pV 1) aA (fun _ _=>rfl)) ak))))) (cO mY (pV 7) (yQ (pV 3)) eY)) ak))) (aF (aW (oV (gY v7 (aD jr hr rfl jt ju jw .nil aR (aj (pV 6) ak)) (pV 9) (bw _)) (gY (Pb hr.units) (aD yG hr rfl yH yI yJ .nil aR (aj (pV 9) ak)) (pV 6) (bw _))))))) bH) (aF (aW iQ)))))))),?_⟩
   refine ⟨.ref a,hs,ls,rfl,lat,g,fun H1 s1=>?_⟩
   refine eG (bU.of (s1 _ _ ha)) (i:=0) (v:=.ref c) (by rfl) ?_
   refine ⟨c,_,rfl,.inr (bU.of (s1 _ _ hc)),?_⟩
   refine eG (bU.of (s1 _ _ ha)) (i:=1) (v:=.ref d) (by rfl) ?_
   refine ⟨d,_,rfl,.inr (bU.of (s1 _ _ hd)),?_⟩
   refine ⟨(vl.length:Int)+1,rfl,by omega,by omega,lO (lo:=0) (n:=((vl.length:Int)+1).toNat) (PRt (.ref a) (.ref a') (cX hs ls) (vh.length:Int) H) ⟨none,none,rfl,s1⟩ (fun i σ H2 hi hz=>?_) (fun σ H2 hz=>?_)⟩
   . obtain ⟨o4,o5,rfl,s2⟩:=hz
     refine eG (bU.of (s2 _ _ ha)) (i:=0) (v:=.ref c) (by rfl) ?_
     refine eG (bU.of (s2 _ _ ha)) (i:=1) (v:=.ref d) (by rfl) ?_
     refine ⟨⟨d,vl,rfl,s2 _ _ hd,fun p3 H3 e3 s3=>?_⟩⟩
     have e3':H3 p3=some (.tup (vl.take i)):=by
       rw [<- yF]
       rw [Int.zero_add] at e3
       exact e3
     refine ⟨by show 2<=sizeLine; omega,fun p4 f4=>?_⟩
     have s4:Same H3 (upd H3 p4 (.tup [.ref c,.ref p3])):=(Same.refl H3).upd f4
     have e4:upd H3 p4 (.tup [.ref c,.ref p3]) p4=some (.tup [.ref c,.ref p3]):=ao
     generalize upd H3 p4 (.tup [.ref c,.ref p3])=H4 at s4 e4 ⊢
     have S4:=(s2.trans s3).trans s4
     refine ⟨.ref p4,hs,ls.take i,rfl,⟨p4,.ref c,.ref p3,rfl,e4,hH0.ts S4.tups,⟨p3,vl.take i,rfl,s4 _ _ e3',oW i (aK (fun _ _ z=>z.ts S4.tups) pl)⟩⟩,Gh g i,fun H5 s5=>?_⟩
     refine ⟨rfl,?_⟩
     refine ⟨rfl,cX hs ls,"\n",rfl,rfl,by decide +kernel,by omega,fun l5 f5=>?_⟩
     rw [gO g ne]
     have s6:Same H5 (upd H5 l5 (.lst ((aG hs ls).map V.str))):=(Same.refl H5).upd f5
     have e6:upd H5 l5 (.lst ((aG hs ls).map V.str)) l5=some (.lst ((aG hs ls).map V.str)):=ao
     generalize upd H5 l5 (.lst ((aG hs ls).map V.str))=H6 at s6 e6 ⊢
     refine ⟨l5,_,rfl,dw.of e6,fun l7 f7=>?_⟩
     have ec:jP ((aG hs ls).map V.str) none (some ((vh.length:Int)+(0+(i:Int))))=(aG hs (ls.take i)).map V.str:=by
       rw [show (vh.length:Int)+(0+(i:Int))=((hs.length+i:Nat):Int) by omega,yF,<- List.map_take,NT]
     rw [ec]
     have s7:Same H6 (upd H6 l7 (.lst ((aG hs (ls.take i)).map V.str))):=(Same.refl H6).upd f7
     have e7:upd H6 l7 (.lst ((aG hs (ls.take i)).map V.str)) l7=some (.lst ((aG hs (ls.take i)).map V.str)):=ao
     generalize upd H6 l7 (.lst ((aG hs (ls.take i)).map V.str))=H7 at s7 e7 ⊢
     have gi:=Gh g i
     have sm:=uP (B:=21000) (ts:=aG hs (ls.take i)) gi.vW
     have n:=gi.qg
     have n2:(aG hs (ls.take i)).length * 21000<=30 * 21000:=Nat.mul_le_mul_right _ n
     refine ⟨"\n",l7,aG hs (ls.take i),rfl,rfl,dw.of e7,by rw [lens.2.2.2.1]; omega,?_⟩
     rw [join_eq]
     refine ⟨rfl,RP rfl ?_⟩
     have gli:=Kd gl i
     refine ⟨hs,ls.take i,rfl,gh,gli,gi,fun v H8 N5 s8=>?_⟩
     refine ⟨v,_,rfl,N5.da gh gli,fun H9 s9=>?_⟩
     rw [ug gh gli]
     refine ⟨true,rfl,false,rfl,?_⟩
     exact ⟨_,_,rfl,((((S4.trans s5).trans s6).trans s7).trans s8).trans s9⟩
   . obtain ⟨o4,o5,rfl,s2⟩:=hz
     refine ⟨.ref a,hs,ls,rfl,lat.ts s2.tups,g,fun H3 s3=>?_⟩
     have S3:=s2.trans s3
     refine ⟨.ref a',hs',ls',rfl,V5.ts S3.tups,g',fun H4 s4=>?_⟩
     have S4:=S3.trans s4
     refine ⟨rfl,?_⟩
     have cl:=nY gh gl
     have cl':=nY gh' gl'
     refine ⟨_,_,Gd ((lat.ts S4.tups).da gh gl) cl,Gd ((V5.ts S4.tups).da gh' gl') cl',ql cl (by decide),ql cl' (by decide),?_⟩
     refine ⟨rfl,Z5 (alike gh gl g g' ne ne') ?_⟩
     refine eG (bU.of (S4 _ _ ha)) (i:=0) (v:=.ref c) (by rfl) ?_
     refine eG (bU.of (S4 _ _ ha')) (i:=0) (v:=.ref c') (by rfl) ?_
     refine ⟨⟨c,c',_,_,rfl,rfl,S4 _ _ hc,S4 _ _ hc',by omega,fun p5 H5 e5 s5=>?_⟩⟩
     refine eG (bU.of (s5 _ _ (S4 _ _ ha))) (i:=1) (v:=.ref d) (by rfl) ?_
     refine ⟨by show 2<=sizeLine; omega,fun p6 f6x=>?_⟩
     have s6:Same H5 (upd H5 p6 (.tup [.ref p5,.ref d])):=(Same.refl H5).upd f6x
     have e6:upd H5 p6 (.tup [.ref p5,.ref d]) p6=some (.tup [.ref p5,.ref d]):=ao
     generalize upd H5 p6 (.tup [.ref p5,.ref d])=H6 at s6 e6 ⊢
     have S6:=(S4.trans s5).trans s6
     have e5':=s6 _ _ e5
     have acs:bM H6 (.ref p6) (hs++hs') ls:=⟨p6,.ref p5,.ref d,rfl,e6,⟨p5,vh++vh',rfl,e5',cQ (aK (fun _ _ z=>z.ts S6.tups) ph) (aK (fun _ _ z=>z.ts S6.tups) ph')⟩,hL0.ts S6.tups⟩
     have lb:(vh++vh').length=(hs++hs').length:=by rw [List.length_append,List.length_append,lh,lh']
     refine eG (bU.of e6) (i:=0) (v:=.ref p5) (by rfl) ?_
     refine ⟨p5,_,rfl,.inr (bU.of e5'),?_⟩
     have N6:∀ h∈hs++hs',bL h:=fun h hh=>(List.mem_append.mp hh).elim (gh.all h) (gh'.all h)
     have n48:(namesOf (hs++hs')).length<=48:=by rw [Je,List.length_append]; have:=gh.few; have:=gh'.few; omega
     by_cases c7:((vh++vh').length:Int)<7
     . show (if decide (((vh++vh').length:Int)<7)=true then _ else _)
       rw [if_pos (decide_eq_true c7)]
       refine ⟨.ref p6,hs++hs',ls,rfl,acs,N6,n48,fun l7 ss H7 e7 s7 pm so=>?_⟩
       refine ⟨l7,_,rfl,.inl (dw.of e7),?_⟩
       by_cases c25:((ss.map V.str).length:Int)<25
       . show (if decide (((ss.map V.str).length:Int)<25)=true then _ else _)
         rw [if_pos (decide_eq_true c25)]
         have S7:=S6.trans s7
         have uX:=acs.ts s7.tups
         refine ⟨.ref p6,_,rfl,bM.daA uX (by omega) (by omega) N6 g.letters,fun H8 s8=>?_⟩
         have S8:=S7.trans s8
         cases hD:jx (.tup [bN (hs++hs'),bB ls]) with
         | false=>exact q _ S8
         | true =>
           have Xd:∀ l∈ls,Fx l/\1<=l.2.1/\∀ m,l.2.2=some m->l.2.1<=m:=fun l hl=>⟨g.letters l hl,(gl.all l hl).least,(gl.all l hl).most⟩
           obtain ⟨ghb,_⟩:=yE N6 Xd hD
           have glb:aU (hs++hs') ls:=V4 gl
           have gb:=R9 g g' ghb.hi
           refine ⟨rfl,cX hs ls,"\n",rfl,rfl,by decide +kernel,by omega,fun l9 f9=>?_⟩
           rw [gO g ne]
           have s9:Same H8 (upd H8 l9 (.lst ((aG hs ls).map V.str))):=(Same.refl H8).upd f9
           have e9:upd H8 l9 (.lst ((aG hs ls).map V.str)) l9=some (.lst ((aG hs ls).map V.str)):=ao
           generalize upd H8 l9 (.lst ((aG hs ls).map V.str))=H9 at s9 e9 ⊢
           have S9:=S8.trans s9
           refine ⟨.ref a',hs',ls',rfl,V5.ts S9.tups,g',fun Oc Ob=>?_⟩
           refine ⟨rfl,cX hs' ls',"\n",rfl,rfl,by decide +kernel,by omega,fun V6 f11=>?_⟩
           rw [gO g' ne']
           have s11:Same Oc (upd Oc V6 (.lst ((aG hs' ls').map V.str))):=(Same.refl Oc).upd f11
           have e11:upd Oc V6 (.lst ((aG hs' ls').map V.str)) V6=some (.lst ((aG hs' ls').map V.str)):=ao
           generalize upd Oc V6 (.lst ((aG hs' ls').map V.str))=H11 at s11 e11 ⊢
           have V7:=Ob.trans s11
           have S11:=S9.trans V7
           refine ⟨_,_,rfl,?_⟩
           refine ⟨rfl,?_⟩
           refine ⟨l9,_,rfl,dw.of (V7 _ _ e9),fun Oh f12=>?_⟩
           have c12:jP ((aG hs ls).map V.str) none (some (vh.length:Int))=((aG hs ls).take hs.length).map V.str:=by rw [lh,yF,List.map_take]
           rw [c12]
           have s12:Same H11 (upd H11 Oh (.lst (((aG hs ls).take hs.length).map V.str))):=(Same.refl H11).upd f12
           have e12:upd H11 Oh (.lst (((aG hs ls).take hs.length).map V.str)) Oh=some (.lst (((aG hs ls).take hs.length).map V.str)):=ao
           generalize upd H11 Oh (.lst (((aG hs ls).take hs.length).map V.str))=H12 at s12 e12 ⊢
           refine eG (bU.of (s12 _ _ (S11 _ _ ha'))) (i:=0) (v:=.ref c') (by rfl) ?_
           refine ⟨c',_,rfl,.inr (bU.of (s12 _ _ (S11 _ _ hc'))),?_⟩
           refine ⟨V6,_,rfl,dw.of (s12 _ _ e11),fun V8 f13=>?_⟩
           have c13:jP ((aG hs' ls').map V.str) none (some (vh'.length:Int))=((aG hs' ls').take hs'.length).map V.str:=by rw [lh',yF,List.map_take]
           rw [c13]
           have s13:Same H12 (upd H12 V8 (.lst (((aG hs' ls').take hs'.length).map V.str))):=(Same.refl H12).upd f13
           have e13:upd H12 V8 (.lst (((aG hs' ls').take hs'.length).map V.str)) V8=some (.lst (((aG hs' ls').take hs'.length).map V.str)):=ao
           generalize upd H12 V8 (.lst (((aG hs' ls').take hs'.length).map V.str))=H13 at s13 e13 ⊢
           have n1:=g.qg
           have n2:=g'.qg
           have lz1:(((aG hs ls).take hs.length).map V.str).length<=30:=by rw [List.length_map,List.length_take]; omega
           have lz2:(((aG hs' ls').take hs'.length).map V.str).length<=30:=by rw [List.length_map,List.length_take]; omega
           refine ⟨Oh,V8,_,_,rfl,rfl,s13 _ _ e12,e13,by omega,fun V9 f14=>?_⟩
           have c14:((aG hs ls).take hs.length).map V.str++((aG hs' ls').take hs'.length).map V.str=((aG hs ls).take hs.length++(aG hs' ls').take hs'.length).map V.str:=by rw [List.map_append]
           rw [c14]
           have s14:Same H13 (upd H13 V9 (.lst (((aG hs ls).take hs.length++(aG hs' ls').take hs'.length).map V.str))):=(Same.refl H13).upd f14
           have e14:upd H13 V9 (.lst (((aG hs ls).take hs.length++(aG hs' ls').take hs'.length).map V.str)) V9=some (.lst (((aG hs ls).take hs.length++(aG hs' ls').take hs'.length).map V.str)):=ao
           generalize upd H13 V9 (.lst (((aG hs ls).take hs.length++(aG hs' ls').take hs'.length).map V.str))=H14 at s14 e14 ⊢
           have Xe:=(s12.trans s13).trans s14
           refine ⟨l9,_,rfl,dw.of (Xe _ _ (V7 _ _ e9)),fun Wa f15=>?_⟩
           have c15:jP ((aG hs ls).map V.str) (some (vh.length:Int)) none=((aG hs ls).drop hs.length).map V.str:=by rw [lh,R8,List.map_drop]
           rw [c15]
           have s15:Same H14 (upd H14 Wa (.lst (((aG hs ls).drop hs.length).map V.str))):=(Same.refl H14).upd f15
           have e15:upd H14 Wa (.lst (((aG hs ls).drop hs.length).map V.str)) Wa=some (.lst (((aG hs ls).drop hs.length).map V.str)):=ao
           generalize upd H14 Wa (.lst (((aG hs ls).drop hs.length).map V.str))=H15 at s15 e15 ⊢
           refine ⟨V9,Wa,_,_,rfl,rfl,s15 _ _ e14,e15,by rw [List.length_map,List.length_map,List.length_append,List.length_take,List.length_take,List.length_drop]; omega,fun Wb f16=>?_⟩
           have c16:((aG hs ls).take hs.length++(aG hs' ls').take hs'.length).map V.str++((aG hs ls).drop hs.length).map V.str=(aG (hs++hs') ls).map V.str:=by rw [<- List.map_append,NZ]
           rw [c16]
           have s16:Same H15 (upd H15 Wb (.lst ((aG (hs++hs') ls).map V.str))):=(Same.refl H15).upd f16
           have e16:upd H15 Wb (.lst ((aG (hs++hs') ls).map V.str)) Wb=some (.lst ((aG (hs++hs') ls).map V.str)):=ao
           generalize upd H15 Wb (.lst ((aG (hs++hs') ls).map V.str))=H16 at s16 e16 ⊢
           have sm:=uP (B:=21000) (ts:=aG (hs++hs') ls) gb.vW
           have n3:=gb.qg
           have n4:(aG (hs++hs') ls).length * 21000<=30 * 21000:=Nat.mul_le_mul_right _ n3
           refine ⟨"\n",Wb,aG (hs++hs') ls,rfl,rfl,dw.of e16,by rw [lens.2.2.2.1]; omega,?_⟩
           rw [join_eq]
           have acD:=((s9.trans V7).trans Xe).trans (s15.trans s16)
           have S16:=S8.trans acD
           have Xf:=uX.ts (s8.trans acD).tups
           refine ⟨.ref p6,hs++hs',ls,rfl,Xf,gb,fun H17 s17=>?_⟩
           have acE:=Xf.ts s17.tups
           refine ⟨rfl,?_⟩
           have clb:=nY ghb glb
           show (if decide (V.str (cX (hs++hs') ls)=V.str (cX (hs++hs') ls))=true then _ else _)
           rw [if_pos (decide_eq_true rfl)]
           refine ⟨hs++hs',ls,rfl,ghb,glb,gb,fun v H18 N5 s18=>?_⟩
           refine ⟨_,_,Gd (N5.da ghb glb) clb,Gd ((acE.ts s18.tups).da ghb glb) clb,ql clb (by decide),ql clb (by decide),?_⟩
           rw [SeqAt.eqv_refl _ (lay_of clb).1]
           exact q _ ((S16.trans s17).trans s18)
       . show (if decide (((ss.map V.str).length:Int)<25)=true then _ else _)
         rw [if_neg (by simpa using c25)]
         exact q _ (S6.trans s7)
     . show (if decide (((vh++vh').length:Int)<7)=true then _ else _)
       rw [if_neg (by simpa using c7)]
       exact q _ S6
end
end nj
namespace nj
open PySem L2 iG TP
theorem aad {hs:List aB} {ls:List Letter} (g:sY hs ls) (i:Nat):sY (hs.take i) []:=⟨by rw [List.length_take]; have:=g.few; omega,Nat.zero_le _,fun h hh=>g.gR h (List.mem_of_mem_take hh),fun l hl=>by cases hl⟩
theorem Jg {hs:List aB} {ls:List Letter} {B:Int} (hB:B<=4000) (gh:bA hs) (gl:aU hs ls) (nh:∀ h∈hs,oF B h) (nl:∀ l∈ls,lB (B+3100) l):sY hs ls:=by
 refine ⟨gh.hi,gl.few,fun h hh=>?_,fun l hl=>?_⟩
 . have g:=gh.all h hh
   obtain ⟨n1,n2,n3,n4⟩:=nh h hh
   have w:=g.wide
   have d:=g.aN
   exact ⟨g,⟨⟨by omega,by omega⟩,⟨by omega,by omega⟩,⟨by omega,by omega⟩,fun r hr=>by have:=n4 r hr; exact ⟨by omega,by omega⟩⟩⟩
 . have g:=gl.all l hl
   obtain ⟨n1,n2⟩:=nl l hl
   have w:=g.least
   exact ⟨g.sent,g.taken,⟨⟨by omega,by omega⟩,fun m e=>by have:=n2 m e; have:=g.most m e; exact ⟨by omega,by omega⟩⟩⟩
theorem vA {H:Hp} {v:V} {hs:List aB} {ls:List Letter} (h:bC H v (.tup [bN hs,bB ls])):bM H v hs ls:=by
 obtain ⟨a,vs,rfl,e,_,r⟩:=h.gk
 obtain ⟨v1,v2,rfl,r1,r2⟩:=r.two
 exact ⟨a,v1,v2,rfl,e,fu.off r1,fB.off r2⟩
def Km (K:PySem.W.Frag):Sp:=fun vs H Q _=>∃ (a:Addr) (ns:List Int),vs=[.ref a]/\dw K H a (ns.map V.int)/\ns.length<=63/\(∀ n∈ns,Qo n)/\∀ H',Q (.bl true) H'
def PL1 (a:Addr) (H:Hp):Nat->St->Hp->Prop:=fun i σ H'=>∃ (o1 o2 o3 o4:Option V),σ=[some (.ref a),o1,o2,o3,o4]/\Same H H'
section
variable {P:Program} {w:World} {K:PySem.W.Frag} {mg:Str->Option Value} {base:Heap} {t8 t6 tR tL:Tok}
theorem rG:bx ["_law_script","_law_k","_law_one","_law_pack_here","_law_other"] ["_law_script"] (aq BX):=⟨rfl,rfl,rfl,by decide +kernel,rfl,by decide +kernel,by decide +kernel⟩
theorem aae {f rH qW dX Jh yK gJ CV:Addr} {fd vB sV eN Ko Ak iK Gi:FuncData} (F:lH K "law" "law" BX f fd) (T:Txt mg t8 t6 tR tL)
   (yL:aQ P w K mg base cC 8 rH vB ["_law_script","_law_k"] (qU K)) (yM:mg "_law_ledger" = some (.ref rH)) (yN:PySem.W.keepIn K (.ref rH)=true) (yO:Binds K vB ["_law_script","_law_k"] [])
   (uK:aQ P w K mg base cC 8 qW sV ["_law_script","_law_k"] (Bx K)) (uL:mg "_law_pack" = some (.ref qW)) (uM:PySem.W.keepIn K (.ref qW)=true) (uN:Binds K sV ["_law_script","_law_k"] [])
   (cI:aQ P w K mg base cC 8 dX eN ["_law_pack_here","_law_size"] pA) (cJ:mg "_law_take" = some (.ref dX)) (cL:PySem.W.keepIn K (.ref dX)=true) (cM:Binds K eN ["_law_pack_here","_law_size"] [])
   (Ss:aQ P w K mg base cC 8 Jh Ko ["_law_pack_here","_law_ledger_here"] Ib) (Sv:mg "_law_bent" = some (.ref Jh)) (Sw:PySem.W.keepIn K (.ref Jh)=true) (SJ:Binds K Ko ["_law_pack_here","_law_ledger_here"] [])
   (SM:aQ P w K mg base cC 8 yK Ak ["_law_ledger_here"] yC) (SN:mg "_law_called" = some (.ref yK)) (SQ:PySem.W.keepIn K (.ref yK)=true) (SX:Binds K Ak ["_law_ledger_here"] [])
   (mG:aQ P w K mg base cC 8 gJ iK ["thing"] (zP jx)) (mH:mg "is_ledger" = some (.ref gJ)) (mJ:PySem.W.keepIn K (.ref gJ)=true) (mK:Binds K iK ["thing"] [])
   (Kq:aQ P w K mg base cC 8 CV Gi ["_law_one","_law_other"] (CQ K)) (Kr:mg "_law_right" = some (.ref CV)) (Ks:PySem.W.keepIn K (.ref CV)=true) (Ku:Binds K Gi ["_law_one","_law_other"] []):aQ P w K mg base cC 9 f fd ["_law_script"] (Km K):=by
 refine F.ok rG (fun vs H Q E h=>?_) (fun cdv A outer s H vs Q E hr h=>?_)
 . obtain ⟨a,ns,rfl,_⟩:=h
   rfl
 . obtain ⟨a,ns,rfl,ha,hl,hb,q⟩:=h
   refine ⟨_,(au (iu PassesOwn.never rfl (Ln rfl T.range (aj aA (aj (aP (jQ rfl) rfl T.max PyProof.Rows.boot_max (aj aA (aj (aP (zm rfl) rfl T.min PyProof.Rows.boot_min (aj (aP aY rfl T.len PySem.boot_len (aj (pV 0) ak)) (aj aA ak))) ak))) (aj aA ak)))) (aC (i:=1) rG.nd rfl (Or.inl rfl)) (au (aX (i:=2) rG.nd rfl (Or.inl rfl) (aD yL hr rfl yM yN yO .nil aR (aj (pV 0) (aj (pV 1) ak)))) (au (aX (i:=3) rG.nd rfl (Or.inl rfl) (aD uK hr rfl uL uM uN .nil aR (aj (pV 0) (aj (bK fZ (pV 1) aA) ak)))) (au (dz (pN oEq (aD cI hr rfl cJ cL cM .nil aR (aj (pV 3) (aj aA ak))) aA (bw _)) (aF (aX (i:=2) rG.nd rfl (Or.inl rfl) (aD Ss hr rfl Sv Sw SJ .nil aR (aj (pV 3) (aj (pV 2) ak))))) bH) (au (aX (i:=4) rG.nd rfl (Or.inl rfl) (aD SM hr rfl SN SQ SX .nil aR (aj (aD yL hr rfl yM yN yO .nil aR (aj (pV 0) (aj (bK fZ (pV 1) aA) ak))) ak))) (au (dz (dR (L2.wz (aD mG hr rfl mH mJ mK .nil aR (aj (pV 4) ak)))) (aF (aX (i:=4) rG.nd rfl (Or.inl rfl) (dD (aj (cO DR (bR iV (pV 2) aA (fun _ _=>rfl)) eY (yQ aA)) (aj (dD ak) ak))))) bH) (aF (dz (tX (dR (L2.wz (aD Kq hr rfl Kr Ks Ku .nil aR (aj (pV 2) (aj (pV 4) ak))))) (pw_or1 (dR (L2.wz (aD Kq hr rfl Kr Ks Ku .nil aR (aj (pV 2) (aj (aD Ss hr rfl Sv Sw SJ .nil aR (aj (aD uK hr rfl uL uM uN .nil aR (aj (pV 0) (aj (bK fZ (pV 1) aA) ak))) (aj (pV 2) ak))) ak))))))) (aF (aW iQ)) bH)))))))) (aF (aW iQ))),?_⟩
   have mR:sizeLine=16777216:=sizeLine_eq
   refine ⟨a,_,rfl,.inl ha,?_⟩
   refine ⟨_,32,rfl,?_⟩
   refine ⟨1,_,rfl,?_⟩
   obtain ⟨mx,emx,mx1,mx2⟩:∃ mx:Int,mx=(if (if (32:Int)<((ns.map V.int).length:Int) then 32 else ((ns.map V.int).length:Int)) > 1 then (if (32:Int)<((ns.map V.int).length:Int) then 32 else ((ns.map V.int).length:Int)) else 1)/\1<=mx/\mx<=32:=⟨_,rfl,by split <;> omega,by split <;> (try split) <;> omega⟩
   rw [<- emx]
   have en:Builtin.Range.rangeSize 0 mx 8<=4:=by
     unfold Builtin.Range.rangeSize
     rw [if_pos (by decide),if_pos (by omega)]
     omega
   refine ⟨0,mx,8,rfl,⟨by decide,by decide,by omega,by omega,by decide,by decide⟩,HB (PL1 a H) ⟨none,none,none,none,rfl,Same.refl H⟩ (fun i σ H1 hi hz=>?_) (fun σ H1 hz=>?_)⟩
   rotate_left
   . obtain ⟨o1,o2,o3,o4,rfl,S1⟩:=hz
     exact q H1
   obtain ⟨o1,o2,o3,o4,rfl,S1⟩:=hz
   refine ⟨a,ns,0+(i:Int) * 8,rfl,lX S1 ha,hb,hl,by omega,by omega,fun x0 hs0 ls0 H2 VL gh0 gl0 nm gw nl s2=>?_⟩
   have S2:=S1.trans s2
   refine ⟨a,ns,0+(i:Int) * 8+6,rfl,lX S2 ha,hb,hl,by omega,by omega,fun p H3 fp pk s3=>?_⟩
   have S3:=S2.trans s3
   have fpH:H p=none:=S2.free fp
   have acG:=VL.ts s3.tups
   refine gn ?_
   dsimp only
   refine ig (fun σ' H'=>∃ (x':V) (hs':List aB) (ls':List Letter),σ'=[some (.ref a),some (.int (0+(i:Int) * 8)),some x',some (.ref p),o4]/\bM H' x' hs' ls'/\bA hs'/\aU hs' ls'/\(∀ h∈hs',oF 2000 h)/\(∀ l∈ls',lB (2000+3100) l)/\Same H H') (fun U hU=>?_) (fun σ' H4 hN=>?_)
   . refine ⟨p,2,rfl,pk,by decide,by decide,fun d H4 d0 d1 pk4 sb4=>?_⟩
     have S4:=j7 S3 fpH sb4
     have acH:bM H4 x0 hs0 ls0:=acG.ts (bG.tups pk sb4)
     have nh0:∀ h∈hs0,oF 1000 h:=fun h hh=>(gw h hh).W9
     show (if decide (d=1)=true then _ else _)
     by_cases c:d=1
     . rw [if_pos (decide_eq_true c)]
       refine ⟨p,x0,hs0,ls0,1000,rfl,pk4,acH.da gh0 gl0,gh0,gl0,by decide,nh0,nl,fun y hs' ls' H5 da gh' gl' nmm ahn nl' pk5 sb5=>?_⟩
       exact hU _ _ ⟨y,hs',ls',rfl,vA da,gh',gl',ahn,nl',j7 S4 fpH sb5⟩
     . rw [if_neg (by simpa using c)]
       exact hU _ _ ⟨x0,hs0,ls0,rfl,acH,gh0,gl0,(fun h hh=>(nh0 h hh).mono),(fun l hl=>lB.mono (B:=1000) (nl l hl)),S4⟩
   clear VL gh0 gl0 nm gw nl acG
   obtain ⟨x,hs,ls,rfl,lat,gh,gl,nh,nl,S4⟩:=hN
   have g:=Jg (by decide) gh gl nh nl
   refine ⟨a,ns,0+(i:Int) * 8+7,rfl,lX S4 ha,hb,hl,by omega,by omega,fun x1 hs1 ls1 H5 aho gh1 gl1 nm1 gw1 nl1 s5=>?_⟩
   have g1:sY hs1 ls1:=Jg (B:=1000) (by decide) gh1 gl1 (fun h hh=>(gw1 h hh).W9) nl1
   refine ⟨x1,hs1,ls1,rfl,aho,g1,fun v H6 N5 s6=>?_⟩
   have S46:=s5.trans s6
   have gv:=Z2 g1
   have fv:=gv.few
   have fvL:=gv.yr
   have N6:∀ h∈hs1.map Xc,bL h:=fun h hh=>(gv.gR h hh).good
   have Xd:∀ l∈ls1.map clL,Fx l/\1<=l.2.1/\∀ m,l.2.2=some m->l.2.1<=m:=fun l hl=>by
     obtain ⟨k,hk,rfl⟩:=List.mem_map.mp hl
     exact ⟨R3 (g1.letters k hk),(gl1.all k hk).least,(gl1.all k hk).most⟩
   refine gn ?_
   dsimp only
   refine ig (fun σ' H'=>∃ (v':V) (hs':List aB) (ls':List Letter),σ'=[some (.ref a),some (.int (0+(i:Int) * 8)),some x,some (.ref p),some v']/\bM H' v' hs' ls'/\bA hs'/\aU hs' ls'/\sY hs' ls'/\Same H4 H') (fun U hU=>?_) (fun σ' H7 hN=>?_)
   . refine ⟨v,_,rfl,bM.daA N5 (by omega) (by omega) N6 gv.letters,fun H7 s7=>?_⟩
     have S47:=S46.trans s7
     cases hD:jx (.tup [bN (hs1.map Xc),bB (ls1.map clL)]) with
     | true =>
       obtain ⟨ghv,glv⟩:=yE N6 Xd hD
       exact hU _ _ ⟨v,_,_,rfl,N5.ts s7.tups,ghv,glv,gv,S47⟩
     | false =>
       obtain ⟨b,y,z,rfl,hb2,hH0,hL0⟩:=id lat
       obtain ⟨c,vh,rfl,hc,ph⟩:=id hH0
       refine eG (bU.of (S47 _ _ hb2)) (i:=0) (v:=.ref c) (by rfl) ?_
       refine ⟨⟨c,vh,rfl,S47 _ _ hc,fun p8 H8 e8 s8=>?_⟩⟩
       have e8':H8 p8=some (.tup (vh.take 1)):=by
         rw [<- yF]
         exact e8
       refine ⟨Nat.zero_le _,fun p9 f9=>?_⟩
       have s9:Same H8 (upd H8 p9 (.tup [])):=(Same.refl H8).upd f9
       have e9:upd H8 p9 (.tup []) p9=some (.tup []):=ao
       generalize upd H8 p9 (.tup [])=H9 at s9 e9 ⊢
       refine ⟨by show 2<=sizeLine; omega,fun p10 f10=>?_⟩
       have Ob:Same H9 (upd H9 p10 (.tup [.ref p8,.ref p9])):=(Same.refl H9).upd f10
       have e10:upd H9 p10 (.tup [.ref p8,.ref p9]) p10=some (.tup [.ref p8,.ref p9]):=ao
       generalize upd H9 p10 (.tup [.ref p8,.ref p9])=Oc at Ob e10 ⊢
       have S10:=((S47.trans s8).trans s9).trans Ob
       exact hU _ _ ⟨.ref p10,hs.take 1,[],rfl,⟨p10,.ref p8,.ref p9,rfl,e10,⟨p8,vh.take 1,rfl,(s9.trans Ob) _ _ e8',oW 1 (aK (fun _ _ z=>z.ts S10.tups) ph)⟩,⟨p9,[],rfl,Ob _ _ e9,.nil⟩⟩,Ai gh (by decide),IK _,aad g 1,S10⟩
   obtain ⟨v',hv',lv',rfl,acI,ghv,glv,gv',S47⟩:=hN
   have uX:=lat.ts S47.tups
   refine ⟨x,v',hs,hv',ls,lv',rfl,uX,gh,gl,g,acI,ghv,glv,gv',fun H8 s8=>?_⟩
   have S8:=(S4.trans S47).trans s8
   refine ⟨a,ns,0+(i:Int) * 8+7,rfl,lX S8 ha,hb,hl,by omega,by omega,fun p9 H9 fp9 pk9 s9=>?_⟩
   have S9:=S8.trans s9
   have ahs:H p9=none:=S8.free fp9
   have acJ:=uX.ts (s8.trans s9).tups
   refine ⟨p9,x,hs,ls,2000,rfl,pk9,acJ.da gh gl,gh,gl,by decide,nh,nl,fun y hs2 ls2 Oc da gh2 gl2 nmm nh2 nl2 aqu acK=>?_⟩
   have S10:=j7 S9 ahs acK
   have acL:bM Oc x hs ls:=acJ.ts (bG.tups pk9 acK)
   refine ⟨x,y,hs,hs2,ls,ls2,rfl,acL,gh,gl,g,vA da,gh2,gl2,Jg (B:=2000+1000) (by decide) gh2 gl2 nh2 (fun l hl=>nl2 l hl),fun H11 s11=>?_⟩
   exact ⟨_,_,_,_,rfl,S10.trans s11⟩
end
end nj
namespace nj
open PySem L2 iG
theorem yP:∀ {xs:List PySem.W.WData} {x:PySem.W.WData},x∈xs->PySem.W.WData.weight x<=PySem.W.WData.weightAll xs
 | y :: xs,x,h=>by
   unfold PySem.W.WData.weightAll
   rcases List.mem_cons.mp h with z | z
   . rw [z]; omega
   . have:=yP z; omega
theorem Wc {ns:List Int} (h:PySem.W.WData.layableAll [PySem.W.WData.list (ns.map PySem.W.WData.int)]=true):∀ n∈ns,Qo n:=fun n hn=>by
 have h1:=List.all_eq_true.mp h _ List.mem_cons_self
 unfold PySem.W.WData.layable at h1
 have h2:=of_decide_eq_true (Bool.and_eq_true_iff.mp h1).2
 unfold PySem.W.WData.weight at h2
 have h3:=yP (List.mem_map_of_mem (f:=PySem.W.WData.int) hn)
 unfold PySem.W.WData.weight at h3
 have e:(2:Nat) ^ 20=1048576:=by decide
 rw [e] at h2
 exact Nat.le_trans h3 h2
theorem N7 {l:PySem.W.OpenLaw} {n k:Nat} {q:Program} {loose:List Str} {XP:(Str->Option Value)->Heap->Prop} {YP:World->Heap->Prop} {d:DefRec} {K:Params->PySem.W.Frag} {CX:World->KZ} {sp:World->Sp} {x:Str}
   (hn:l.most=some n) (hn2:n<=sizeLine) (hdf:d.params.defaults=[]) (hr:lG k callerA) (hY:∀ (w:World) (h:Heap),YP w h->(K w.params).In h)
   (F:∀ (w:World) (mg:Str->Option Value) (fa:Addr) (h:Heap),(K w.params).In h->h.Ns mainGlobals mg->mg d.name=some (.ref fa) ->
     ∃ fd:FuncData,(∀ (s:Shared) (u:Value),BindsTo s fd ⟨[u],[]⟩ [(x,u)])/\∀ base:Heap,(K w.params).In base->base.Ns mainGlobals mg->aQ l.prog w (K w.params) mg base (CX w) k fa fd [x] (sp w))
   (hsp:∀ (w:World) (H:Hp) (a:Addr) (ns:List Int),ns.length<=n->(∀ m∈ns,Qo m)->Only H->dw (K w.params) H a (ns.map V.int)->sp w [.ref a] H (fun v _=>v=.bl true) fun _ _ _=>False)
   (hCX:∀ (w:World) (H:Hp) (s:Shared) (e:Value) (s':Shared),CX w [] H s (fun _ _ _=>False) e s'->False):PySem.W.WalkO q loose XP YP l.row.toRowW d [] (fun f vs=>PySem.call f vs):=by
 intro w s₀ s₁ mg mb G Y fa o pm cd doc dV kV ho hd hcd hD hmg hg args vals as hpre hlay hrd hwl hlo
 obtain rfl:dV=.none:=PySem.W.Dflts.none hD hdf
 obtain rfl:kV=.none:=PySem.W.Dflts.noKw hD
 obtain ⟨a,vs,ns,rfl,rfl,hobj,hints,hlen⟩:=Att.K7 hn hpre hwl
 have KX:=hY w _ Y
 obtain ⟨fd,hb,hF⟩:=F w mg fa _ KX G.T.g hmg
 have key:=O7 KX G.T.g G.T.b G.T.builtins G.T.nolimit hg hobj hints (Nat.le_trans hlen hn2) hr hF hb (fun H hO hS=>hsp w H a ns hlen (Wc hlay) hO hS) fun H e s'=>hCX w H s₁ e s'
 refine PySem.W.enter_call (codeAny_mono key fun r s' hq=>?_)
 obtain ⟨rfl,h2,h3,h4⟩:=hq
 exact ⟨.inl ⟨.bool true,.bool true,[],rfl,fun _=>rfl,.bool true,Att.K8 l _,fun _=>⟨List.Pairwise.nil,fun _ hm=>(nomatch hm)⟩⟩,h2,h3,h4⟩
theorem all_mk {l:PySem.W.OpenLaw} {w:World} {K:PySem.W.Frag} {h:Heap} {mg:Str->Option Value} {fa f1 f2 f3 f4 f5 f6 f7 f8 f9 f10 f11 f12 f13 f14 f15 f16 f17 f18 f19 f20 f21 f22 f23 f24 f25 f26 f27 f28 f29 f30 f31 f32 f33 f34 f35 f36 f37 f38:Addr} {t8 t6 tR tL:Tok} (X:K.In h) (G:h.Ns mainGlobals mg) (hfa:mg "law" = some (.ref fa))
   {od1 an1 od2 an2 od3 an3 od4 an4 od5 an5 od6 an6 od7 an7 od8 an8 od9 an9 ahu ahv ahw ahx ahy ahz ahA ahB ahC ahD ahE ahF ahG ahH ahI ahJ ahK ahL ahM ahN ahO ahP ahQ ahR ahS ahT ahU ahV ahW ahX ahY ahZ ah0 ah1 ah2 ah3 ah4 ah5 ah6 ah7 ah8 ah9 aia aib aic aie aif aii aij aik ail ain aio aip aiq air ais acM:Option Addr} {sl1 sl2 sl3 sl4 sl5 sl6 sl7 sl8 sl9 ait aiu aiv aiw aix aiy aiz aiA aiB aiC aiD aiE aiF aiG aiH aiI aiJ aiK aiL aiM aiN aiO aiP aiQ aiR aiS aiT aiU aiV:Array (Option Value)} {oc1 kV1 dc1 pm1 cd1 ct1 oc2 kV2 dc2 pm2 cd2 ct2 oc3 kV3 dc3 pm3 cd3 ct3 oc4 kV4 dc4 pm4 cd4 ct4 oc5 kV5 dc5 pm5 cd5 ct5 oc6 kV6 dc6 pm6 cd6 ct6 oc7 kV7 dc7 pm7 cd7 ct7 oc8 kV8 dc8 pm8 cd8 ct8 oc9 kV9 dc9 pm9 cd9 ct9 aiW aiX aiY aiZ acN ai0 ai1 ai2 ai3 ai4 acO ai5 ai6 ai7 ai8 ai9 acP aja ajb ajc ajd aje acQ ajf ajg ajh aji ajj acR ajk ajl ajm ajn ajo acS ajp ajq ajr ajs ajt acT aju ajv ajw ajx ajy acU ajz ajA ajB ajC ajD acV ajE ajF ajG ajH ajI acW ajJ ajK ajL ajM ajN acX ajO ajP ajQ ajR ajS acY ajT ajU ajV ajW ajX acZ ajY ajZ aj0 aj1 aj2 ac0 aj3 aj4 aj5 aj6 aj7 ac1 aj8 aj9 akb akc akd ac2 ake akf akg akh aki ac3 akj akk akl akm akn ac4 ako akp akq akr aks ac5 akt aku akv akx aky ac6 akz akA akB akC akD ac7 akE akF akG akH akI ac8 akJ akK akL akM akN ac9 akO akP akQ akR akS ada akT akU akV akW akX adb akY akZ ak0 ak1 ak2 ade ak3 ak4 ak5 ak6 ak7 adf ak8 ak9 ala alb alc adg ald ale adh adi adk aag adl:Value}
   (a1:PySem.W.nsIn K mainGlobals "is_whole" = some (some (.ref f1))) (l1:K.lookup f1=some ⟨oc1,od1,.func (PySem.W.fnOf "is_whole" "is_whole" (bh um) (aZ um) (aq um) .none kV1 dc1 pm1 an1 cd1 ct1),sl1⟩) (c1:PySem.W.codeIn K cd1 "is_whole" = true) (k1:PySem.W.keepIn K (.ref f1)=true)
   (a2:PySem.W.nsIn K mainGlobals "is_name" = some (some (.ref f2))) (l2:K.lookup f2=some ⟨oc2,od2,.func (PySem.W.fnOf "is_name" "is_name" (bh xu) (aZ xu) (aq xu) .none kV2 dc2 pm2 an2 cd2 ct2),sl2⟩) (c2:PySem.W.codeIn K cd2 "is_name" = true) (k2:PySem.W.keepIn K (.ref f2)=true)
   (a3:PySem.W.nsIn K mainGlobals "has_parts" = some (some (.ref f3))) (l3:K.lookup f3=some ⟨oc3,od3,.func (PySem.W.fnOf "has_parts" "has_parts" (bh uo) (aZ uo) (aq uo) .none kV3 dc3 pm3 an3 cd3 ct3),sl3⟩) (c3:PySem.W.codeIn K cd3 "has_parts" = true) (k3:PySem.W.keepIn K (.ref f3)=true)
   (a4:PySem.W.nsIn K mainGlobals "is_rising" = some (some (.ref f4))) (l4:K.lookup f4=some ⟨oc4,od4,.func (PySem.W.fnOf "is_rising" "is_rising" (bh nu) (aZ nu) (aq nu) .none kV4 dc4 pm4 an4 cd4 ct4),sl4⟩) (c4:PySem.W.codeIn K cd4 "is_rising" = true) (k4:PySem.W.keepIn K (.ref f4)=true)
   (a5:PySem.W.nsIn K mainGlobals "is_named_number" = some (some (.ref f5))) (l5:K.lookup f5=some ⟨oc5,od5,.func (PySem.W.fnOf "is_named_number" "is_named_number" (bh uq) (aZ uq) (aq uq) .none kV5 dc5 pm5 an5 cd5 ct5),sl5⟩) (c5:PySem.W.codeIn K cd5 "is_named_number" = true) (k5:PySem.W.keepIn K (.ref f5)=true)
   (a6:PySem.W.nsIn K mainGlobals "is_clock" = some (some (.ref f6))) (l6:K.lookup f6=some ⟨oc6,od6,.func (PySem.W.fnOf "is_clock" "is_clock" (bh qN) (aZ qN) (aq qN) .none kV6 dc6 pm6 an6 cd6 ct6),sl6⟩) (c6:PySem.W.codeIn K cd6 "is_clock" = true) (k6:PySem.W.keepIn K (.ref f6)=true)
   (a7:PySem.W.nsIn K mainGlobals "is_run" = some (some (.ref f7))) (l7:K.lookup f7=some ⟨oc7,od7,.func (PySem.W.fnOf "is_run" "is_run" (bh En) (aZ En) (aq En) .none kV7 dc7 pm7 an7 cd7 ct7),sl7⟩) (c7:PySem.W.codeIn K cd7 "is_run" = true) (k7:PySem.W.keepIn K (.ref f7)=true)
   (a8:PySem.W.nsIn K mainGlobals "is_house" = some (some (.ref f8))) (l8:K.lookup f8=some ⟨oc8,od8,.func (PySem.W.fnOf "is_house" "is_house" (bh qO) (aZ qO) (aq qO) .none kV8 dc8 pm8 an8 cd8 ct8),sl8⟩) (c8:PySem.W.codeIn K cd8 "is_house" = true) (k8:PySem.W.keepIn K (.ref f8)=true)
   (a9:PySem.W.nsIn K mainGlobals "rows_in" = some (some (.ref f9))) (l9:K.lookup f9=some ⟨oc9,od9,.func (PySem.W.fnOf "rows_in" "rows_in" (bh nA) (aZ nA) (aq nA) .none kV9 dc9 pm9 an9 cd9 ct9),sl9⟩) (c9:PySem.W.codeIn K cd9 "rows_in" = true) (k9:PySem.W.keepIn K (.ref f9)=true)
   (a10:PySem.W.nsIn K mainGlobals "row_names" = some (some (.ref f10))) (l10:K.lookup f10=some ⟨aiW,ahu,.func (PySem.W.fnOf "row_names" "row_names" (bh jl) (aZ jl) (aq jl) .none aiX aiY aiZ ahv acN ai0),ait⟩) (c10:PySem.W.codeIn K acN "row_names" = true) (k10:PySem.W.keepIn K (.ref f10)=true)
   (a11:PySem.W.nsIn K mainGlobals "are_unlike" = some (some (.ref f11))) (V6:K.lookup f11=some ⟨ai1,ahw,.func (PySem.W.fnOf "are_unlike" "are_unlike" (bh pW) (aZ pW) (aq pW) .none ai2 ai3 ai4 ahx acO ai5),aiu⟩) (c11:PySem.W.codeIn K acO "are_unlike" = true) (k11:PySem.W.keepIn K (.ref f11)=true)
   (a12:PySem.W.nsIn K mainGlobals "are_houses" = some (some (.ref f12))) (Oh:K.lookup f12=some ⟨ai6,ahy,.func (PySem.W.fnOf "are_houses" "are_houses" (bh lg) (aZ lg) (aq lg) .none ai7 ai8 ai9 ahz acP aja),aiv⟩) (c12:PySem.W.codeIn K acP "are_houses" = true) (k12:PySem.W.keepIn K (.ref f12)=true)
   (a13:PySem.W.nsIn K mainGlobals "is_letter" = some (some (.ref f13))) (V8:K.lookup f13=some ⟨ajb,ahA,.func (PySem.W.fnOf "is_letter" "is_letter" (bh pX) (aZ pX) (aq pX) .none ajc ajd aje ahB acQ ajf),aiw⟩) (c13:PySem.W.codeIn K acQ "is_letter" = true) (k13:PySem.W.keepIn K (.ref f13)=true)
   (a14:PySem.W.nsIn K mainGlobals "are_letters" = some (some (.ref f14))) (V9:K.lookup f14=some ⟨ajg,ahC,.func (PySem.W.fnOf "are_letters" "are_letters" (bh jc) (aZ jc) (aq jc) .none ajh aji ajj ahD acR ajk),aix⟩) (c14:PySem.W.codeIn K acR "are_letters" = true) (k14:PySem.W.keepIn K (.ref f14)=true)
   (a15:PySem.W.nsIn K mainGlobals "is_ledger" = some (some (.ref f15))) (Wa:K.lookup f15=some ⟨ajl,ahE,.func (PySem.W.fnOf "is_ledger" "is_ledger" (bh pY) (aZ pY) (aq pY) .none ajm ajn ajo ahF acS ajp),aiy⟩) (c15:PySem.W.codeIn K acS "is_ledger" = true) (k15:PySem.W.keepIn K (.ref f15)=true)
   (a16:PySem.W.nsIn K mainGlobals "show_run" = some (some (.ref f16))) (Wb:K.lookup f16=some ⟨ajq,ahG,.func (PySem.W.fnOf "show_run" "show_run" (bh qP) (aZ qP) (aq qP) .none ajr ajs ajt ahH acT aju),aiz⟩) (c16:PySem.W.codeIn K acT "show_run" = true) (k16:PySem.W.keepIn K (.ref f16)=true)
   (a17:PySem.W.nsIn K mainGlobals "show_house" = some (some (.ref f17))) (l17:K.lookup f17=some ⟨ajv,ahI,.func (PySem.W.fnOf "show_house" "show_house" (bh j8) (aZ j8) (aq j8) .none ajw ajx ajy ahJ acU ajz),aiA⟩) (c17:PySem.W.codeIn K acU "show_house" = true) (k17:PySem.W.keepIn K (.ref f17)=true)
   (a18:PySem.W.nsIn K mainGlobals "show_letter" = some (some (.ref f18))) (l18:K.lookup f18=some ⟨ajA,ahK,.func (PySem.W.fnOf "show_letter" "show_letter" (bh jT) (aZ jT) (aq jT) .none ajB ajC ajD ahL acV ajE),aiB⟩) (c18:PySem.W.codeIn K acV "show_letter" = true) (k18:PySem.W.keepIn K (.ref f18)=true)
   (a19:PySem.W.nsIn K mainGlobals "show_ledger" = some (some (.ref f19))) (l19:K.lookup f19=some ⟨ajF,ahM,.func (PySem.W.fnOf "show_ledger" "show_ledger" (bh iI) (aZ iI) (aq iI) .none ajG ajH ajI ahN acW ajJ),aiC⟩) (c19:PySem.W.codeIn K acW "show_ledger" = true) (k19:PySem.W.keepIn K (.ref f19)=true)
   (a20:PySem.W.nsIn K mainGlobals "read_number" = some (some (.ref f20))) (l20:K.lookup f20=some ⟨ajK,ahO,.func (PySem.W.fnOf "read_number" "read_number" (bh ur) (aZ ur) (aq ur) .none ajL ajM ajN ahP acX ajO),aiD⟩) (c20:PySem.W.codeIn K acX "read_number" = true) (k20:PySem.W.keepIn K (.ref f20)=true)
   (a21:PySem.W.nsIn K mainGlobals "read_row" = some (some (.ref f21))) (l21:K.lookup f21=some ⟨ajP,ahQ,.func (PySem.W.fnOf "read_row" "read_row" (bh uw) (aZ uw) (aq uw) .none ajQ ajR ajS ahR acY ajT),aiE⟩) (c21:PySem.W.codeIn K acY "read_row" = true) (k21:PySem.W.keepIn K (.ref f21)=true)
   (a22:PySem.W.nsIn K mainGlobals "read_run" = some (some (.ref f22))) (l22:K.lookup f22=some ⟨ajU,ahS,.func (PySem.W.fnOf "read_run" "read_run" (bh qQ) (aZ qQ) (aq qQ) .none ajV ajW ajX ahT acZ ajY),aiF⟩) (c22:PySem.W.codeIn K acZ "read_run" = true) (k22:PySem.W.keepIn K (.ref f22)=true)
   (a23:PySem.W.nsIn K mainGlobals "read_house" = some (some (.ref f23))) (l23:K.lookup f23=some ⟨ajZ,ahU,.func (PySem.W.fnOf "read_house" "read_house" (bh j9) (aZ j9) (aq j9) .none aj0 aj1 aj2 ahV ac0 aj3),aiG⟩) (c23:PySem.W.codeIn K ac0 "read_house" = true) (k23:PySem.W.keepIn K (.ref f23)=true)
   (a24:PySem.W.nsIn K mainGlobals "read_letter" = some (some (.ref f24))) (ZP:K.lookup f24=some ⟨aj4,ahW,.func (PySem.W.fnOf "read_letter" "read_letter" (bh jU) (aZ jU) (aq jU) .none aj5 aj6 aj7 ahX ac1 aj8),aiH⟩) (c24:PySem.W.codeIn K ac1 "read_letter" = true) (k24:PySem.W.keepIn K (.ref f24)=true)
   (a25:PySem.W.nsIn K mainGlobals "with_row" = some (some (.ref f25))) (l25:K.lookup f25=some ⟨aj9,ahY,.func (PySem.W.fnOf "with_row" "with_row" (bh zX) (aZ zX) (aq zX) .none akb akc akd ahZ ac2 ake),aiI⟩) (c25:PySem.W.codeIn K ac2 "with_row" = true) (k25:PySem.W.keepIn K (.ref f25)=true)
   (a26:PySem.W.nsIn K mainGlobals "read_ledger" = some (some (.ref f26))) (l26:K.lookup f26=some ⟨akf,ah0,.func (PySem.W.fnOf "read_ledger" "read_ledger" (bh jV) (aZ jV) (aq jV) .none akg akh aki ah1 ac3 akj),aiJ⟩) (c26:PySem.W.codeIn K ac3 "read_ledger" = true) (k26:PySem.W.keepIn K (.ref f26)=true)
   (a27:PySem.W.nsIn K mainGlobals "_law_mixed" = some (some (.ref f27))) (l27:K.lookup f27=some ⟨akk,ah2,.func (PySem.W.fnOf "_law_mixed" "_law_mixed" (bh uy) (aZ uy) (aq uy) .none akl akm akn ah3 ac4 ako),aiK⟩) (c27:PySem.W.codeIn K ac4 "_law_mixed" = true) (k27:PySem.W.keepIn K (.ref f27)=true)
   (a28:PySem.W.nsIn K mainGlobals "_law_pack" = some (some (.ref f28))) (l28:K.lookup f28=some ⟨akp,ah4,.func (PySem.W.fnOf "_law_pack" "_law_pack" (bh zY) (aZ zY) (aq zY) .none akq akr aks ah5 ac5 akt),aiL⟩) (c28:PySem.W.codeIn K ac5 "_law_pack" = true) (k28:PySem.W.keepIn K (.ref f28)=true)
   (a29:PySem.W.nsIn K mainGlobals "_law_take" = some (some (.ref f29))) (l29:K.lookup f29=some ⟨aku,ah6,.func (PySem.W.fnOf "_law_take" "_law_take" (bh zZ) (aZ zZ) (aq zZ) .none akv akx aky ah7 ac6 akz),aiM⟩) (c29:PySem.W.codeIn K ac6 "_law_take" = true) (Wd:PySem.W.keepIn K (.ref f29)=true)
   (a30:PySem.W.nsIn K mainGlobals "_law_names" = some (some (.ref f30))) (l30:K.lookup f30=some ⟨akA,ah8,.func (PySem.W.fnOf "_law_names" "_law_names" (bh nC) (aZ nC) (aq nC) .none akB akC akD ah9 ac7 akE),aiN⟩) (c30:PySem.W.codeIn K ac7 "_law_names" = true) (k30:PySem.W.keepIn K (.ref f30)=true)
   (a31:PySem.W.nsIn K mainGlobals "_law_house" = some (some (.ref f31))) (l31:K.lookup f31=some ⟨akF,aia,.func (PySem.W.fnOf "_law_house" "_law_house" (bh mj) (aZ mj) (aq mj) .none akG akH akI aib ac8 akJ),aiO⟩) (c31:PySem.W.codeIn K ac8 "_law_house" = true) (k31:PySem.W.keepIn K (.ref f31)=true)
   (a32:PySem.W.nsIn K mainGlobals "_law_letters" = some (some (.ref f32))) (l32:K.lookup f32=some ⟨akK,aic,.func (PySem.W.fnOf "_law_letters" "_law_letters" (bh iz) (aZ iz) (aq iz) .none akL akM akN aie ac9 akO),aiP⟩) (c32:PySem.W.codeIn K ac9 "_law_letters" = true) (k32:PySem.W.keepIn K (.ref f32)=true)
   (a33:PySem.W.nsIn K mainGlobals "_law_ledger" = some (some (.ref f33))) (l33:K.lookup f33=some ⟨akP,aif,.func (PySem.W.fnOf "_law_ledger" "_law_ledger" (bh jW) (aZ jW) (aq jW) .none akQ akR akS aii ada akT),aiQ⟩) (c33:PySem.W.codeIn K ada "_law_ledger" = true) (k33:PySem.W.keepIn K (.ref f33)=true)
   (a34:PySem.W.nsIn K mainGlobals "_law_bent" = some (some (.ref f34))) (l34:K.lookup f34=some ⟨akU,aij,.func (PySem.W.fnOf "_law_bent" "_law_bent" (bh xG) (aZ xG) (aq xG) .none akV akW akX aik adb akY),aiR⟩) (c34:PySem.W.codeIn K adb "_law_bent" = true) (k34:PySem.W.keepIn K (.ref f34)=true)
   (a35:PySem.W.nsIn K mainGlobals "_law_rows" = some (some (.ref f35))) (l35:K.lookup f35=some ⟨akZ,ail,.func (PySem.W.fnOf "_law_rows" "_law_rows" (bh xH) (aZ xH) (aq xH) .none ak0 ak1 ak2 ain ade ak3),aiS⟩) (c35:PySem.W.codeIn K ade "_law_rows" = true) (k35:PySem.W.keepIn K (.ref f35)=true)
   (a36:PySem.W.nsIn K mainGlobals "_law_called" = some (some (.ref f36))) (l36:K.lookup f36=some ⟨ak4,aio,.func (PySem.W.fnOf "_law_called" "_law_called" (bh lu) (aZ lu) (aq lu) .none ak5 ak6 ak7 aip adf ak8),aiT⟩) (c36:PySem.W.codeIn K adf "_law_called" = true) (k36:PySem.W.keepIn K (.ref f36)=true)
   (a37:PySem.W.nsIn K mainGlobals "_law_right" = some (some (.ref f37))) (l37:K.lookup f37=some ⟨ak9,aiq,.func (PySem.W.fnOf "_law_right" "_law_right" (bh uz) (aZ uz) (aq uz) .none ala alb alc air adg ald),aiU⟩) (c37:PySem.W.codeIn K adg "_law_right" = true) (k37:PySem.W.keepIn K (.ref f37)=true)
   (a38:PySem.W.nsIn K mainGlobals "law" = some (some (.ref f38))) (l38:K.lookup f38=some ⟨ale,ais,.func (PySem.W.fnOf "law" "law" (bh BX) (aZ BX) (aq BX) .none adh adi adk acM aag adl),aiV⟩) (c38:PySem.W.codeIn K aag "law" = true) (k38:PySem.W.keepIn K (.ref f38)=true)
   (y1:PySem.W.nsIn K mainGlobals "LONGEST_NAME" = some (some (.int 8 t8))) (y2:PySem.W.nsIn K mainGlobals "MOST_HOUSES" = some (some (.int 6 t6))) (y3:PySem.W.nsIn K mainGlobals "MOST_ROWS" = some (some (.int 24 tR))) (y4:PySem.W.nsIn K mainGlobals "MOST_LETTERS" = some (some (.int 24 tL))) (z1:PySem.W.nsIn K mainGlobals "isinstance" = some none) (z2:PySem.W.nsIn K mainGlobals "int" = some none) (z3:PySem.W.nsIn K mainGlobals "bool" = some none) (z4:PySem.W.nsIn K mainGlobals "str" = some none) (z5:PySem.W.nsIn K mainGlobals "tuple" = some none) (z6:PySem.W.nsIn K mainGlobals "len" = some none) (z7:PySem.W.nsIn K mainGlobals "all" = some none) (z8:PySem.W.nsIn K mainGlobals "zip" = some none) (z9:PySem.W.nsIn K mainGlobals "set" = some none) (z10:PySem.W.nsIn K mainGlobals "sorted" = some none) (z11:PySem.W.nsIn K mainGlobals "divmod" = some none) (z12:PySem.W.nsIn K mainGlobals "range" = some none) (z13:PySem.W.nsIn K mainGlobals "max" = some none) (z14:PySem.W.nsIn K mainGlobals "min" = some none) (z15:PySem.W.nsIn K mainGlobals "abs" = some none) (z16:PySem.W.nsIn K mainGlobals "list" = some none) (z17:PySem.W.nsIn K mainGlobals "enumerate" = some none) :
   ∃ fd:FuncData,(∀ (s:Shared) (v:Value),BindsTo s fd ⟨[v],[]⟩ [("_law_script",v)])/\∀ base:Heap,K.In base->base.Ns mainGlobals mg->aQ l.prog w K mg base cC 9 fa fd ["_law_script"] (Km K):=by
 have e:=hfa.symm.trans (PySem.W.mg_of X G a38)
 cases e
 have T:Txt mg t8 t6 tR tL:=⟨PySem.W.mg_none_of X G z1,PySem.W.mg_none_of X G z2,PySem.W.mg_none_of X G z3,PySem.W.mg_none_of X G z4,PySem.W.mg_none_of X G z5,PySem.W.mg_none_of X G z6,PySem.W.mg_none_of X G z7,PySem.W.mg_none_of X G z8,PySem.W.mg_none_of X G z9,PySem.W.mg_none_of X G z10,PySem.W.mg_none_of X G z11,PySem.W.mg_none_of X G z12,PySem.W.mg_none_of X G z13,PySem.W.mg_none_of X G z14,PySem.W.mg_none_of X G z15,PySem.W.mg_none_of X G z16,PySem.W.mg_none_of X G z17,PySem.W.mg_of X G y1,PySem.W.mg_of X G y2,PySem.W.mg_of X G y3,PySem.W.mg_of X G y4⟩
 have F1:=bW (st:=um) l1 c1 k1
 have b1:=F1.binds (ps:=["thing"]) fun _ _ _ _ _ _ us hl=>match us,hl with | [_],_=>rfl
 have F2:=bW (st:=xu) l2 c2 k2
 have b2:=F2.binds (ps:=["thing"]) fun _ _ _ _ _ _ us hl=>match us,hl with | [_],_=>rfl
 have F3:=bW (st:=uo) l3 c3 k3
 have b3:=F3.binds (ps:=["thing","many"]) fun _ _ _ _ _ _ us hl=>match us,hl with | [_,_],_=>rfl
 have F4:=bW (st:=nu) l4 c4 k4
 have b4:=F4.binds (ps:=["values"]) fun _ _ _ _ _ _ us hl=>match us,hl with | [_],_=>rfl
 have F5:=bW (st:=uq) l5 c5 k5
 have b5:=F5.binds (ps:=["thing"]) fun _ _ _ _ _ _ us hl=>match us,hl with | [_],_=>rfl
 have F6:=bW (st:=qN) l6 c6 k6
 have b6:=F6.binds (ps:=["name","low","high","drift"]) fun _ _ _ _ _ _ us hl=>match us,hl with | [_,_,_,_],_=>rfl
 have F7:=bW (st:=En) l7 c7 k7
 have b7:=F7.binds (ps:=["thing"]) fun _ _ _ _ _ _ us hl=>match us,hl with | [_],_=>rfl
 have F8:=bW (st:=qO) l8 c8 k8
 have b8:=F8.binds (ps:=["thing"]) fun _ _ _ _ _ _ us hl=>match us,hl with | [_],_=>rfl
 have F9:=bW (st:=nA) l9 c9 k9
 have b9:=F9.binds (ps:=["house"]) fun _ _ _ _ _ _ us hl=>match us,hl with | [_],_=>rfl
 have F10:=bW (st:=jl) l10 c10 k10
 have b10:=F10.binds (ps:=["houses"]) fun _ _ _ _ _ _ us hl=>match us,hl with | [_],_=>rfl
 have F11:=bW (st:=pW) V6 c11 k11
 have b11:=F11.binds (ps:=["names"]) fun _ _ _ _ _ _ us hl=>match us,hl with | [_],_=>rfl
 have F12:=bW (st:=lg) Oh c12 k12
 have b12:=F12.binds (ps:=["thing"]) fun _ _ _ _ _ _ us hl=>match us,hl with | [_],_=>rfl
 have F13:=bW (st:=pX) V8 c13 k13
 have b13:=F13.binds (ps:=["thing"]) fun _ _ _ _ _ _ us hl=>match us,hl with | [_],_=>rfl
 have F14:=bW (st:=jc) V9 c14 k14
 have b14:=F14.binds (ps:=["thing","houses"]) fun _ _ _ _ _ _ us hl=>match us,hl with | [_,_],_=>rfl
 have F15:=bW (st:=pY) Wa c15 k15
 have b15:=F15.binds (ps:=["thing"]) fun _ _ _ _ _ _ us hl=>match us,hl with | [_],_=>rfl
 have F16:=bW (st:=qP) Wb c16 k16
 have b16:=F16.binds (ps:=["run"]) fun _ _ _ _ _ _ us hl=>match us,hl with | [_],_=>rfl
 have F17:=bW (st:=j8) l17 c17 k17
 have b17:=F17.binds (ps:=["house"]) fun _ _ _ _ _ _ us hl=>match us,hl with | [_],_=>rfl
 have F18:=bW (st:=jT) l18 c18 k18
 have b18:=F18.binds (ps:=["letter"]) fun _ _ _ _ _ _ us hl=>match us,hl with | [_],_=>rfl
 have F19:=bW (st:=iI) l19 c19 k19
 have b19:=F19.binds (ps:=["ledger"]) fun _ _ _ _ _ _ us hl=>match us,hl with | [_],_=>rfl
 have F20:=bW (st:=ur) l20 c20 k20
 have b20:=F20.binds (ps:=["word"]) fun _ _ _ _ _ _ us hl=>match us,hl with | [_],_=>rfl
 have F21:=bW (st:=uw) l21 c21 k21
 have b21:=F21.binds (ps:=["word"]) fun _ _ _ _ _ _ us hl=>match us,hl with | [_],_=>rfl
 have F22:=bW (st:=qQ) l22 c22 k22
 have b22:=F22.binds (ps:=["part"]) fun _ _ _ _ _ _ us hl=>match us,hl with | [_],_=>rfl
 have F23:=bW (st:=j9) l23 c23 k23
 have b23:=F23.binds (ps:=["row"]) fun _ _ _ _ _ _ us hl=>match us,hl with | [_],_=>rfl
 have F24:=bW (st:=jU) ZP c24 k24
 have b24:=F24.binds (ps:=["row"]) fun _ _ _ _ _ _ us hl=>match us,hl with | [_],_=>rfl
 have F25:=bW (st:=zX) l25 c25 k25
 have b25:=F25.binds (ps:=["ledger","row"]) fun _ _ _ _ _ _ us hl=>match us,hl with | [_,_],_=>rfl
 have F26:=bW (st:=jV) l26 c26 k26
 have b26:=F26.binds (ps:=["text"]) fun _ _ _ _ _ _ us hl=>match us,hl with | [_],_=>rfl
 have F27:=bW (st:=uy) l27 c27 k27
 have b27:=F27.binds (ps:=["_law_cell"]) fun _ _ _ _ _ _ us hl=>match us,hl with | [_],_=>rfl
 have F28:=bW (st:=zY) l28 c28 k28
 have b28:=F28.binds (ps:=["_law_script","_law_k"]) fun _ _ _ _ _ _ us hl=>match us,hl with | [_,_],_=>rfl
 have F29:=bW (st:=zZ) l29 c29 Wd
 have b29:=F29.binds (ps:=["_law_pack_here","_law_size"]) fun _ _ _ _ _ _ us hl=>match us,hl with | [_,_],_=>rfl
 have F30:=bW (st:=nC) l30 c30 k30
 have b30:=F30.binds (ps:=["_law_pack_here","_law_amount"]) fun _ _ _ _ _ _ us hl=>match us,hl with | [_,_],_=>rfl
 have F31:=bW (st:=mj) l31 c31 k31
 have b31:=F31.binds (ps:=["_law_pack_here","_law_name","_law_names_here","_law_room"]) fun _ _ _ _ _ _ us hl=>match us,hl with | [_,_,_,_],_=>rfl
 have F32:=bW (st:=iz) l32 c32 k32
 have b32:=F32.binds (ps:=["_law_pack_here","_law_houses","_law_hidden"]) fun _ _ _ _ _ _ us hl=>match us,hl with | [_,_,_],_=>rfl
 have F33:=bW (st:=jW) l33 c33 k33
 have b33:=F33.binds (ps:=["_law_script","_law_k"]) fun _ _ _ _ _ _ us hl=>match us,hl with | [_,_],_=>rfl
 have F34:=bW (st:=xG) l34 c34 k34
 have b34:=F34.binds (ps:=["_law_pack_here","_law_ledger_here"]) fun _ _ _ _ _ _ us hl=>match us,hl with | [_,_],_=>rfl
 have F35:=bW (st:=xH) l35 c35 k35
 have b35:=F35.binds (ps:=["_law_ledger_here"]) fun _ _ _ _ _ _ us hl=>match us,hl with | [_],_=>rfl
 have F36:=bW (st:=lu) l36 c36 k36
 have b36:=F36.binds (ps:=["_law_ledger_here"]) fun _ _ _ _ _ _ us hl=>match us,hl with | [_],_=>rfl
 have F37:=bW (st:=uz) l37 c37 k37
 have b37:=F37.binds (ps:=["_law_one","_law_other"]) fun _ _ _ _ _ _ us hl=>match us,hl with | [_,_],_=>rfl
 have F38:=bW (st:=BX) l38 c38 k38
 have b38:=F38.binds (ps:=["_law_script"]) fun _ _ _ _ _ _ us hl=>match us,hl with | [_],_=>rfl
 refine ⟨PySem.W.fnOf "law" "law" (bh BX) (aZ BX) (aq BX) .none adh adi adk acM aag adl,fun s v=>.of_eq rfl,fun base _ _=>?_⟩
 have G1:aQ l.prog w K mg base cC 1 f1 _ ["thing"] (rZ K):=QV F1 T
 have G2:aQ l.prog w K mg base cC 1 f2 _ ["thing"] (wM K):=Uy F2 T
 have G3:aQ l.prog w K mg base cC 1 f3 _ ["thing","many"] pU:=Q5 F3 T
 have G4:aQ l.prog w K mg base cC 1 f4 _ ["values"] sG:=Mq F4 T
 have G5:aQ l.prog w K mg base cC 2 f5 _ ["thing"] (zP gD):=Q7 F5 G3 (PySem.W.mg_of X G a3) k3 b3 G2 (PySem.W.mg_of X G a2) k2 b2 G1 (PySem.W.mg_of X G a1) k1 b1
 have G6:aQ l.prog w K mg base cC 2 f6 _ ["name","low","high","drift"] Bu:=Q9 F6 T G2 (PySem.W.mg_of X G a2) k2 b2 G1 (PySem.W.mg_of X G a1) k1 b1
 have G7:aQ l.prog w K mg base cC 3 f7 _ ["thing"] (zP wN):=Zh F7 T G5 (PySem.W.mg_of X G a5) k5 b5 (G4.mono (by decide)) (PySem.W.mg_of X G a4) k4 b4
 have G8:aQ l.prog w K mg base cC 4 f8 _ ["thing"] (zP fV):=Ra F8 T (G3.mono (by decide)) (PySem.W.mg_of X G a3) k3 b3 (G6.mono (by decide)) (PySem.W.mg_of X G a6) k6 b6 G7 (PySem.W.mg_of X G a7) k7 b7
 have G9:aQ l.prog w K mg base cC 1 f9 _ ["house"] sI:=Ms F9
 have G10:aQ l.prog w K mg base cC 2 f10 _ ["houses"] qK:=Et F10 G9 (PySem.W.mg_of X G a9) k9 b9
 have G11:aQ l.prog w K mg base cC 1 f11 _ ["names"] wR:=Mu F11 T
 have G12:aQ l.prog w K mg base cC 5 f12 _ ["thing"] (zP iZ):=Mv F12 T G8 (PySem.W.mg_of X G a8) k8 b8 (G10.mono (by decide)) (PySem.W.mg_of X G a10) k10 b10 (G11.mono (by decide)) (PySem.W.mg_of X G a11) k11 b11
 have G13:aQ l.prog w K mg base cC 2 f13 _ ["thing"] (zP eZ):=Mw F13 G3 (PySem.W.mg_of X G a3) k3 b3 G2 (PySem.W.mg_of X G a2) k2 b2 G1 (PySem.W.mg_of X G a1) k1 b1
 have G14:aQ l.prog w K mg base cC 3 f14 _ ["thing","houses"] ud:=HW F14 T G13 (PySem.W.mg_of X G a13) k13 b13 (G9.mono (by decide)) (PySem.W.mg_of X G a9) k9 b9 (G4.mono (by decide)) (PySem.W.mg_of X G a4) k4 b4
 have G15:aQ l.prog w K mg base cC 6 f15 _ ["thing"] (zP jx):=Mz F15 (G3.mono (by decide)) (PySem.W.mg_of X G a3) k3 b3 G12 (PySem.W.mg_of X G a12) k12 b12 (G14.mono (by decide)) (PySem.W.mg_of X G a14) k14 b14
 have G16:aQ l.prog w K mg base cC 1 f16 _ ["run"] Cw:=RM F16
 have G17:aQ l.prog w K mg base cC 2 f17 _ ["house"] uQ:=Ih F17 G16 (PySem.W.mg_of X G a16) k16 b16
 have G18:aQ l.prog w K mg base cC 1 f18 _ ["letter"] qX:=FJ F18 T
 have G19:aQ l.prog w K mg base cC 3 f19 _ ["ledger"] qY:=FN F19 G17 (PySem.W.mg_of X G a17) k17 b17 (G18.mono (by decide)) (PySem.W.mg_of X G a18) k18 b18
 have G20:aQ l.prog w K mg base cC 1 f20 _ ["word"] sZ:=RT F20 T
 have G21:aQ l.prog w K mg base cC 2 f21 _ ["word"] Cz:=RV F21 G20 (PySem.W.mg_of X G a20) k20 b20
 have G22:aQ l.prog w K mg base cC 3 f22 _ ["part"] CG:=RW F22 T G21 (PySem.W.mg_of X G a21) k21 b21
 have G23:aQ l.prog w K mg base cC 4 f23 _ ["row"] uV:=Ir F23 T G22 (PySem.W.mg_of X G a22) k22 b22 (G20.mono (by decide)) (PySem.W.mg_of X G a20) k20 b20
 have G24:aQ l.prog w K mg base cC 2 f24 _ ["row"] rB:=Ga F24 T G20 (PySem.W.mg_of X G a20) k20 b20
 have G25:aQ l.prog w K mg base cC 5 f25 _ ["ledger","row"] Ip:=VJ F25 T G23 (PySem.W.mg_of X G a23) k23 b23 (G24.mono (by decide)) (PySem.W.mg_of X G a24) k24 b24
 have G26:aQ l.prog w K mg base cC 7 f26 _ ["text"] rD:=Gb F26 T (G25.mono (by decide)) (PySem.W.mg_of X G a25) k25 b25 G15 (PySem.W.mg_of X G a15) k15 b15
 have G27:aQ l.prog w K mg base cC 1 f27 _ ["_law_cell"] Bw:=QX F27
 have G28:aQ l.prog w K mg base cC 2 f28 _ ["_law_script","_law_k"] (Bx K):=UJ F28 T G27 (PySem.W.mg_of X G a27) k27 b27
 have G29:aQ l.prog w K mg base cC 1 f29 _ ["_law_pack_here","_law_size"] pA:=UL F29 T
 have G30:aQ l.prog w K mg base cC 2 f30 _ ["_law_pack_here","_law_amount"] BL:=QZ F30 T G29 (PySem.W.mg_of X G a29) Wd b29
 have G31:aQ l.prog w K mg base cC 2 f31 _ ["_law_pack_here","_law_name","_law_names_here","_law_room"] uI:=HY F31 T G29 (PySem.W.mg_of X G a29) Wd b29
 have G32:aQ l.prog w K mg base cC 2 f32 _ ["_law_pack_here","_law_houses","_law_hidden"] nQ:=Cj F32 T G29 (PySem.W.mg_of X G a29) Wd b29
 have G33:aQ l.prog w K mg base cC 3 f33 _ ["_law_script","_law_k"] (qU K):=Fi F33 T G28 (PySem.W.mg_of X G a28) k28 b28 G30 (PySem.W.mg_of X G a30) k30 b30 (G29.mono (by decide)) (PySem.W.mg_of X G a29) Wd b29 G31 (PySem.W.mg_of X G a31) k31 b31 G32 (PySem.W.mg_of X G a32) k32 b32
 have G34:aQ l.prog w K mg base cC 2 f34 _ ["_law_pack_here","_law_ledger_here"] Ib:=Vp F34 T G29 (PySem.W.mg_of X G a29) Wd b29
 have G35:aQ l.prog w K mg base cC 1 f35 _ ["_law_ledger_here"] Cp:=Vq F35 T
 have G36:aQ l.prog w K mg base cC 1 f36 _ ["_law_ledger_here"] yC:=Nz F36 T
 have G37:aQ l.prog w K mg base cC 8 f37 _ ["_law_one","_law_other"] (CQ K):=Sg F37 T (G19.mono (by decide)) (PySem.W.mg_of X G a19) k19 b19 (G15.mono (by decide)) (PySem.W.mg_of X G a15) k15 b15 G26 (PySem.W.mg_of X G a26) k26 b26 (G35.mono (by decide)) (PySem.W.mg_of X G a35) k35 b35
 exact aae F38 T (G33.mono (by decide)) (PySem.W.mg_of X G a33) k33 b33 (G28.mono (by decide)) (PySem.W.mg_of X G a28) k28 b28 (G29.mono (by decide)) (PySem.W.mg_of X G a29) Wd b29 (G34.mono (by decide)) (PySem.W.mg_of X G a34) k34 b34 (G36.mono (by decide)) (PySem.W.mg_of X G a36) k36 b36 (G15.mono (by decide)) (PySem.W.mg_of X G a15) k15 b15 G37 (PySem.W.mg_of X G a37) k37 b37
theorem walk {l:PySem.W.OpenLaw} {q:Program} {loose:List Str} {XP:(Str->Option Value)->Heap->Prop} {YP:World->Heap->Prop} {d:DefRec} {K:Params->PySem.W.Frag} (hn:l.most=some 63) (hdf:d.params.defaults=[])
   (hY:∀ (w:World) (h:Heap),YP w h->(K w.params).In h)
   (F:∀ (w:World) (mg:Str->Option Value) (fa:Addr) (h:Heap),(K w.params).In h->h.Ns mainGlobals mg->mg d.name=some (.ref fa) ->
     ∃ fd:FuncData,(∀ (s:Shared) (u:Value),BindsTo s fd ⟨[u],[]⟩ [("_law_script",u)])/\∀ base:Heap,(K w.params).In base->base.Ns mainGlobals mg->aQ l.prog w (K w.params) mg base cC 9 fa fd ["_law_script"] (Km (K w.params))) :
   PySem.W.WalkO q loose XP YP l.row.toRowW d [] (fun f vs=>PySem.call f vs) :=
 N7 (n:=63) (k:=9) (x:="_law_script") (CX:=fun _=>cC) (sp:=fun w=>Km (K w.params)) hn (by decide) hdf ⟨rfl,by decide,by decide⟩ hY F (fun _ _ a ns hl hb _ hS=>⟨a,ns,rfl,hS,hl,hb,fun _=>rfl⟩) fun _ _ _ _ _ z=>z
end nj
def PySem.W.Fast.tw11043117832142631366 : Unit := ()
def PySem.W.Fast.tw290283159634502640 : Unit := ()
def PySem.W.Fast.tw2924350310655593974 : Unit := ()
def PySem.W.Fast.tw2817558447144395531 : Unit := ()
def PySem.W.Fast.tw17274554888299119567 : Unit := ()
def PySem.W.Fast.tw10877006918856308917 : Unit := ()
def PySem.W.Fast.tw9061521573292920289 : Unit := ()
def PySem.W.Fast.tw9056432149221986977 : Unit := ()
def PySem.W.Fast.tw12333593250371738475 : Unit := ()
def PySem.W.Fast.tw1771888062892728703 : Unit := ()
open PySem PySem.W PyProof.Rows
set_option maxRecDepth 100000 in
set_option maxHeartbeats 0 in
theorem PySem.Challenge.cw_skewbooks_k68_whole_parts_of_ledgers_as_holds : PySem.Challenge.rw_skewbooks_k68_whole_parts_of_ledgers_as.Holds := by
 w_on; o_law; k_head; (case hw=>w_witness2)
 k_fill
 refine nj.walk (l:=PySem.Challenge.rw_skewbooks_k68_whole_parts_of_ledgers_as) rfl rfl (fun w h Y=>PySem.W.kIn_of Y) ?F
 case F =>
   intro w mg fa h KX G hmg
   refine' nj.all_mk KX G hmg ?a1 ?l1 ?c1 ?k1 ?a2 ?l2 ?c2 ?k2 ?a3 ?l3 ?c3 ?k3 ?a4 ?l4 ?c4 ?k4 ?a5 ?l5 ?c5 ?k5 ?a6 ?l6 ?c6 ?k6 ?a7 ?l7 ?c7 ?k7 ?a8 ?l8 ?c8 ?k8 ?a9 ?l9 ?c9 ?k9 ?a10 ?l10 ?c10 ?k10 ?a11 ?V6 ?c11 ?k11 ?a12 ?Oh ?c12 ?k12 ?a13 ?V8 ?c13 ?k13 ?a14 ?V9 ?c14 ?k14 ?a15 ?Wa ?c15 ?k15 ?a16 ?Wb ?c16 ?k16 ?a17 ?l17 ?c17 ?k17 ?a18 ?l18 ?c18 ?k18 ?a19 ?l19 ?c19 ?k19 ?a20 ?l20 ?c20 ?k20 ?a21 ?l21 ?c21 ?k21 ?a22 ?l22 ?c22 ?k22 ?a23 ?l23 ?c23 ?k23 ?a24 ?ZP ?c24 ?k24 ?a25 ?l25 ?c25 ?k25 ?a26 ?l26 ?c26 ?k26 ?a27 ?l27 ?c27 ?k27 ?a28 ?l28 ?c28 ?k28 ?a29 ?l29 ?c29 ?Wd ?a30 ?l30 ?c30 ?k30 ?a31 ?l31 ?c31 ?k31 ?a32 ?l32 ?c32 ?k32 ?a33 ?l33 ?c33 ?k33 ?a34 ?l34 ?c34 ?k34 ?a35 ?l35 ?c35 ?k35 ?a36 ?l36 ?c36 ?k36 ?a37 ?l37 ?c37 ?k37 ?a38 ?l38 ?c38 ?k38 ?y1 ?y2 ?y3 ?y4 ?z1 ?z2 ?z3 ?z4 ?z5 ?z6 ?z7 ?z8 ?z9 ?z10 ?z11 ?z12 ?z13 ?z14 ?z15 ?z16 ?z17
   (case a1=>k_is)
   (case l1=>k_is)
   (case c1=>k_is)
   (case k1=>k_is)
   (case a2=>k_is)
   (case l2=>k_is)
   (case c2=>k_is)
   (case k2=>k_is)
   (case a3=>k_is)
   (case l3=>k_is)
   (case c3=>k_is)
   (case k3=>k_is)
   (case a4=>k_is)
   (case l4=>k_is)
   (case c4=>k_is)
   (case k4=>k_is)
   (case a5=>k_is)
   (case l5=>k_is)
   (case c5=>k_is)
   (case k5=>k_is)
   (case a6=>k_is)
   (case l6=>k_is)
   (case c6=>k_is)
   (case k6=>k_is)
   (case a7=>k_is)
   (case l7=>k_is)
   (case c7=>k_is)
   (case k7=>k_is)
   (case a8=>k_is)
   (case l8=>k_is)
   (case c8=>k_is)
   (case k8=>k_is)
   (case a9=>k_is)
   (case l9=>k_is)
   (case c9=>k_is)
   (case k9=>k_is)
   (case a10=>k_is)
   (case l10=>k_is)
   (case c10=>k_is)
   (case k10=>k_is)
   (case a11=>k_is)
   (case V6=>k_is)
   (case c11=>k_is)
   (case k11=>k_is)
   (case a12=>k_is)
   (case Oh=>k_is)
   (case c12=>k_is)
   (case k12=>k_is)
   (case a13=>k_is)
   (case V8=>k_is)
   (case c13=>k_is)
   (case k13=>k_is)
   (case a14=>k_is)
   (case V9=>k_is)
   (case c14=>k_is)
   (case k14=>k_is)
   (case a15=>k_is)
   (case Wa=>k_is)
   (case c15=>k_is)
   (case k15=>k_is)
   (case a16=>k_is)
   (case Wb=>k_is)
   (case c16=>k_is)
   (case k16=>k_is)
   (case a17=>k_is)
   (case l17=>k_is)
   (case c17=>k_is)
   (case k17=>k_is)
   (case a18=>k_is)
   (case l18=>k_is)
   (case c18=>k_is)
   (case k18=>k_is)
   (case a19=>k_is)
   (case l19=>k_is)
   (case c19=>k_is)
   (case k19=>k_is)
   (case a20=>k_is)
   (case l20=>k_is)
   (case c20=>k_is)
   (case k20=>k_is)
   (case a21=>k_is)
   (case l21=>k_is)
   (case c21=>k_is)
   (case k21=>k_is)
   (case a22=>k_is)
   (case l22=>k_is)
   (case c22=>k_is)
   (case k22=>k_is)
   (case a23=>k_is)
   (case l23=>k_is)
   (case c23=>k_is)
   (case k23=>k_is)
   (case a24=>k_is)
   (case ZP=>k_is)
   (case c24=>k_is)
   (case k24=>k_is)
   (case a25=>k_is)
   (case l25=>k_is)
   (case c25=>k_is)
   (case k25=>k_is)
   (case a26=>k_is)
   (case l26=>k_is)
   (case c26=>k_is)
   (case k26=>k_is)
   (case a27=>k_is)
   (case l27=>k_is)
   (case c27=>k_is)
   (case k27=>k_is)
   (case a28=>k_is)
   (case l28=>k_is)
   (case c28=>k_is)
   (case k28=>k_is)
   (case a29=>k_is)
   (case l29=>k_is)
   (case c29=>k_is)
   (case Wd=>k_is)
   (case a30=>k_is)
   (case l30=>k_is)
   (case c30=>k_is)
   (case k30=>k_is)
   (case a31=>k_is)
   (case l31=>k_is)
   (case c31=>k_is)
   (case k31=>k_is)
   (case a32=>k_is)
   (case l32=>k_is)
   (case c32=>k_is)
   (case k32=>k_is)
   (case a33=>k_is)
   (case l33=>k_is)
   (case c33=>k_is)
   (case k33=>k_is)
   (case a34=>k_is)
   (case l34=>k_is)
   (case c34=>k_is)
   (case k34=>k_is)
   (case a35=>k_is)
   (case l35=>k_is)
   (case c35=>k_is)
   (case k35=>k_is)
   (case a36=>k_is)
   (case l36=>k_is)
   (case c36=>k_is)
   (case k36=>k_is)
   (case a37=>k_is)
   (case l37=>k_is)
   (case c37=>k_is)
   (case k37=>k_is)
   (case a38=>k_is)
   (case l38=>k_is)
   (case c38=>k_is)
   (case k38=>k_is)
   (case y1=>k_is)
   (case y2=>k_is)
   (case y3=>k_is)
   (case y4=>k_is)
   (case z1=>k_is)
   (case z2=>k_is)
   (case z3=>k_is)
   (case z4=>k_is)
   (case z5=>k_is)
   (case z6=>k_is)
   (case z7=>k_is)
   (case z8=>k_is)
   (case z9=>k_is)
   (case z10=>k_is)
   (case z11=>k_is)
   (case z12=>k_is)
   (case z13=>k_is)
   (case z14=>k_is)
   (case z15=>k_is)
   (case z16=>k_is)
   (case z17=>k_is)
