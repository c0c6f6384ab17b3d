import PyProof.Rows.All
import Wide.All
import OpenK.AllK
import Wide.FinOn
import Lean
import PyProof.EqAt
import PyProof.EqKinds
import PyProof.TupleCall
import PySem.Challenge.RW_skewbooks_k05_whole_placings_of_ledgers
set_option Elab.async false
set_option linter.all false
set_option maxRecDepth 100000
namespace L2
open PySem PySem.Spec PyProof.Rows
abbrev Key:=Sum (Option Int) Str
def pP:Key->Value->Bool
 | .inl none,v=>match v with | .none=>true | _=>false
 | .inl (some k),v=>Value.isInt k v
 | .inr x,v=>Value.isStrOf x v
def ad9 (w:World):Key->Int
 | .inl none=>0xFCA86420
 | .inl (some k)=>hashInt k
 | .inr x=>hashStr w x
theorem cB:∀ {k:Key} {v:Value},pP k v=true->(∃ i t,k=Sum.inl (some i)/\v=Value.int i t)∨(∃ x t,k=Sum.inr x/\v=Value.str x t)∨(k=Sum.inl none/\v=Value.none)
 | .inl (some i),v,h=>by
   obtain ⟨t,e⟩:=Value.isInt_shape (k:=i) (v:=v) h
   exact .inl ⟨i,t,rfl,e⟩
 | .inl none,v,h=>by
   cases v with
   | none=>exact .inr (.inr ⟨rfl,rfl⟩)
   | _=>cases h
 | .inr x,v,h=>by
   obtain ⟨t,e⟩:=Value.isStrOf_shape (x:=x) (v:=v) h
   exact .inr (.inl ⟨x,t,rfl,e⟩)
theorem Jt (i:Int) (t:Tok):pP (.inl (some i)) (.int i t)=true:=by simp [pP,Value.isInt]
theorem Ju (x:Str) (t:Tok):pP (.inr x) (.str x t)=true:=by simp [pP,Value.isStrOf]
theorem Ea:pP (.inl none) .none=true:=rfl
theorem Wy (a b:Int):decide ((Sum.inl (some a):Key)=Sum.inl (some b))=(a == b):=by
 by_cases e:a=b
 . subst e; simp
 . have h:¬ (Sum.inl (some a):Key)=Sum.inl (some b):=fun q=>e (Option.some.inj (Sum.inl.inj q))
   rw [decide_eq_false h]
   exact (beq_eq_false_iff_ne.mpr e).symm
theorem Wz (a b:Str):decide ((Sum.inr a:Key)=Sum.inr b)=decide (a=b):=by
 by_cases e:a=b
 . subst e; simp
 . have h:¬ (Sum.inr a:Key)=Sum.inr b:=fun q=>e (Sum.inr.inj q)
   rw [decide_eq_false h,decide_eq_false e]
theorem Mx (a:Option Int) (b:Str):decide ((Sum.inl a:Key)=Sum.inr b)=false:=decide_eq_false (fun q=>nomatch q)
theorem Mz (a:Str) (b:Option Int):decide ((Sum.inr a:Key)=Sum.inl b)=false:=decide_eq_false (fun q=>nomatch q)
theorem WD (a:Int):decide ((Sum.inl (some a):Key)=Sum.inl none)=false:=decide_eq_false (fun q=>nomatch (Sum.inl.inj q))
theorem WK (a:Int):decide ((Sum.inl none:Key)=Sum.inl (some a))=false:=decide_eq_false (fun q=>nomatch (Sum.inl.inj q))
theorem WL:decide ((Sum.inl none:Key)=Sum.inl none)=true:=decide_eq_true rfl
theorem Jv {prog:Program} {w:World} {A:Around} {E:Value->Shared->Prop} {s:Shared} {Q:Int->Shared->Prop} (h:Q 0xFCA86420 { s with toks:=s.toks+1 }):wpAny (model prog w) A (pyHash .none) Q E s:=by
 have hT:s.TypeIs .none "NoneType":=rfl
 unfold pyHash
 have hv:[Value.none].any Value.onHeap=false:=rfl
 refine wpAny_bind ?_
 rw [cRoomFor,if_neg (by rw [hv]; exact Bool.false_ne_true)]; refine wpAny_pure ?_
 refine wpAny_bind (wpAny_specialOf hT PySem.F.slot_NoneType_hash.lookup ?_)
 show wpAny _ _ (if (some (Value.builtin "NoneType.__hash__") == some Value.none)=true then _ else _) Q E s
 rw [if_neg (by decide)]
 refine wpAny_bind (wpAny_specialOf hT PySem.F.slot_NoneType_hash.lookup ?_)
 show wpAny _ _ (callSpecialIfBoundUnlessNone? .none "__hash__" _ >>= _) Q E s
 refine wpAny_bind (wpAny_callSpecialIfBoundUnlessNone?_slot hT PySem.F.slot_NoneType_hash
   (wpAny_call_entry PySem.F.slot_NoneType_hash hT PySem.F.entry_NoneType_hash
     (show wpAny _ _ (do ret (<- mkInt 0xFCA86420)) _ _ s from wpAny_ret_mkInt ?_) (PySem.F.args_NoneType_hash_1 _)))
 show wpAny _ _ (if (decide (-(2:Int) ^ 63<=0xFCA86420) && decide ((0xFCA86420:Int)<2 ^ 63))=true then _ else _) Q E _
 rw [if_pos (by decide)]
 exact wpAny_pure h
theorem yC {prog:Program} {w:World} {A:Around} {E:Value->Shared->Prop} {s:Shared} {Q:Bool->Shared->Prop} (h:Q true s):wpAny (model prog w) A (eqBool .none .none) Q E s:=by
 have hb:(Value.none == Value.none)=true:=by decide
 unfold eqBool
 rw [if_pos hb]
 exact wpAny_bind (wpAny_rule (wpAny_pure h))
def bW (prog:Program) (w:World):PySem.KeyKind prog w Key where
 is:=pP
 hash:=ad9 w
 inj:=fun v a b ha hb=>by
   rcases cB ha with ⟨i,t,rfl,rfl⟩ | ⟨x,t,rfl,rfl⟩ | ⟨rfl,rfl⟩
   . rcases cB hb with ⟨j,u,rfl,e⟩ | ⟨y,u,rfl,e⟩ | ⟨rfl,e⟩
     . injection e with e1 _; rw [e1]
     . exact nomatch e
     . exact nomatch e
   . rcases cB hb with ⟨j,u,rfl,e⟩ | ⟨y,u,rfl,e⟩ | ⟨rfl,e⟩
     . exact nomatch e
     . injection e with e1 _; rw [e1]
     . exact nomatch e
   . rcases cB hb with ⟨j,u,rfl,e⟩ | ⟨y,u,rfl,e⟩ | ⟨rfl,e⟩
     . exact nomatch e
     . exact nomatch e
     . rfl
 byValue:=fun k v h=>by
   rcases cB h with ⟨i,t,rfl,rfl⟩ | ⟨x,t,rfl,rfl⟩ | ⟨rfl,rfl⟩ <;> rfl
 pyHash:=fun hv h=>by
   rcases cB hv with ⟨i,t,rfl,rfl⟩ | ⟨x,t,rfl,rfl⟩ | ⟨rfl,rfl⟩
   . exact wpAny_pyHash_int h
   . exact wpAny_pyHash_str h
   . exact Jv h
 eqBool:=fun hu hv h=>by
   rcases cB hu with ⟨i,t,rfl,rfl⟩ | ⟨x,t,rfl,rfl⟩ | ⟨rfl,rfl⟩
   . rcases cB hv with ⟨j,u,rfl,rfl⟩ | ⟨y,u,rfl,rfl⟩ | ⟨rfl,rfl⟩
     . rw [Wy] at h; exact wpAny_eqBool_int h
     . rw [Mx] at h; exact SeqAt.EqAt.int_str i t y u _ _ _ _ h
     . rw [WD] at h; exact SeqAt.EqAt.int_none i t _ _ _ _ h
   . rcases cB hv with ⟨j,u,rfl,rfl⟩ | ⟨y,u,rfl,rfl⟩ | ⟨rfl,rfl⟩
     . rw [Mz] at h; exact SeqAt.EqAt.str_int x t j u _ _ _ _ h
     . rw [Wz] at h; exact wpAny_eqBool_str h
     . rw [Mz] at h; exact SeqAt.EqAt.str_none x t _ _ _ _ h
   . rcases cB hv with ⟨j,u,rfl,rfl⟩ | ⟨y,u,rfl,rfl⟩ | ⟨rfl,rfl⟩
     . rw [WK] at h; exact SeqAt.EqAt.none_int j u _ _ _ _ h
     . rw [Mx] at h; exact SeqAt.EqAt.none_str y u _ _ _ _ h
     . rw [WL] at h; exact yC h
 «strs»:=fun k x t v h=>by
   rcases cB h with ⟨i,u,rfl,e⟩ | ⟨y,u,rfl,e⟩ | ⟨rfl,e⟩
   . exact nomatch e
   . injection e with e1 _
     subst e1
     cases v <;> rfl
   . exact nomatch e
theorem Aq (prog:Program) (w:World) (i:Int) (t:Tok):(bW prog w).is (.inl (some i)) (.int i t)=true:=Jt i t
theorem jy (prog:Program) (w:World) (x:Str) (t:Tok):(bW prog w).is (.inr x) (.str x t)=true:=Ju x t
theorem yD (prog:Program) (w:World):(bW prog w).is (.inl none) .none=true:=Ea
end L2
namespace L2
open PySem PySem.Spec PyProof.Rows
inductive V where
 | non | bl (b:Bool) | int (i:Int) | str (x:Str) | Mu (b:Array UInt8) | flt (b:UInt64) | ref (a:Addr) | ty (n:String)
 deriving DecidableEq
def RelV:V->Value->Prop
 | .non,u=>u=Value.none
 | .bl b,u=>u=Value.bool b
 | .int i,u=>∃ t,u=Value.int i t
 | .str x,u=>∃ t,u=Value.str x t
 | .Mu b,u=>∃ t,u=Value.bytes b t
 | .flt b,u=>∃ t,u=Value.float b t
 | .ref a,u=>u=Value.ref a
 | .ty n,u=>u=Value.type n
abbrev Vals:List V->List Value->Prop:=Paired RelV
theorem Vals.length {xs:List V} {us:List Value} (r:Vals xs us):xs.length=us.length:=Paired.length r
theorem Vals.get:∀ {xs:List V} {us:List Value} {i:Nat} {x:V},Vals xs us->xs[i]?=some x->∃ u,us[i]?=some u/\RelV x u
 | _,_,_,_,.nil,e=>by simp at e
 | _,_,0,_,.cons r _,e=>by simp at e; subst e; exact ⟨_,rfl,r⟩
 | _,_,i+1,x,.cons _ t,e=>by
   obtain ⟨u,h1,h2⟩:=Vals.get (i:=i) (x:=x) t (by simpa using e)
   exact ⟨u,by simpa using h1,h2⟩
theorem Vals.set {x:V} {u:Value} (r:RelV x u):∀ {xs:List V} {us:List Value} (i:Nat),Vals xs us->Vals (xs.set i x) (us.set i u)
 | _,_,_,.nil=>.nil
 | _,_,0,.cons _ t=>.cons r t
 | _,_,i+1,.cons q t=>.cons q (Vals.set r i t)
theorem Vals.append:∀ {xs ys:List V} {us ws:List Value},Vals xs us->Vals ys ws->Vals (xs++ys) (us++ws)
 | _,_,_,_,.nil,s=>s
 | _,_,_,_,.cons r t,s=>.cons r (Vals.append t s)
theorem Vals.take:∀ {xs:List V} {us:List Value} (n:Nat),Vals xs us->Vals (xs.take n) (us.take n)
 | _,_,0,_=>.nil
 | _,_,_+1,.nil=>.nil
 | _,_,n+1,.cons r t=>.cons r (Vals.take n t)
theorem Vals.drop:∀ {xs:List V} {us:List Value} (n:Nat),Vals xs us->Vals (xs.drop n) (us.drop n)
 | _,_,0,r=>r
 | _,_,_+1,.nil=>.nil
 | _,_,n+1,.cons _ t=>Vals.drop n t
def rF:Option V->Option Value->Prop
 | some v,some u=>RelV v u
 | none,none=>True
 | _,_=>False
def KV {κ:Type}:List (κ × V)->List (κ × Value)->Prop:=Paired fun (p:κ × V) (q:κ × Value)=>p.1=q.1/\RelV p.2 q.2
def kV:Key->V
 | .inl none=>.non
 | .inl (some i)=>.int i
 | .inr x=>.str x
inductive HO where
 /-- a list -/
 | lst (xs:List V)
 /-- a tuple (never changes) -/
 | tup (xs:List V)
 /-- a dict whose keys are ints and texts; one whose keys are tuples of ints and texts (the empty one is both) -/
 | dK (kvs:List (Key × V)) | dT (kvs:List (List Key × V))
 /-- a set of ints: its members,its size -/
 | set (S:Int->Bool) (n:Nat)
 /-- an instance of the class at C,its dict at dx,its attributes -/
 | ins (C dx:Addr) (fs:List (Str × V))
 /-- the dict of the instance at x -/
 | own (x:Addr)
 /-- the dict of an exception -/
 | xd (fs:List (Str × V))
 /-- a bound method,f of x -/
 | met (f x:Addr)
 /-- a range object lo,lo+1,.. below hi -/
 | rng (lo hi:Int)
 /-- a thing that is known to the object (the script; a dict while a loop walks it): read,never written while it is so -/
 | nu (o:Obj) (u:HO)
 /-- a code object's table -/
 | WM (ps:Array Value)
 /-- any other thing,by what is true of its one object (a def of one's own: ami a S n:=HO.ext fun h=>..) -/
 | ext (φ:Heap->Prop)
abbrev Hp:=Addr->Option HO
def upd (H:Hp) (a:Addr) (o:HO):Hp:=fun b=>if b=a then some o else H b
theorem aq {H:Hp} {a:Addr} {o:HO}:upd H a o a=some o:=by unfold upd; rw [if_pos rfl]
theorem aL {H:Hp} {a b:Addr} {o:HO} (h:b≠a):upd H a o b=H b:=by unfold upd; rw [if_neg h]
theorem aax {H:Hp} {a b:Addr} {o u:HO} (h:H a=some o) (h':H b=some u) (d:o≠u):a≠b:=by
 intro e; subst e; rw [h] at h'; exact d (Option.some.inj h')
theorem aN {H:Hp} {a b:Addr} {o:HO} (h:H a=some o) (h':H b=none):a≠b:=by
 intro e; subst e; rw [h] at h'; cases h'
def mC (h:Heap) (a:Addr) (items:Array Value):Prop:=∃ o,h.get? a=some o/\o.cls=.type "tuple"/\(∃ n,o.data=.seq items n)/\o.dict=none
theorem mC.to {h:Heap} {a:Addr} {items:Array Value} (x:mC h a items):IsTup h a items:=let ⟨o,e,c,d,_⟩:=x; ⟨o,e,c,d⟩
theorem mC.new (h:Heap) (items:Array Value):mC (h.push { cls:=.type "tuple",data:=.seq items }) h.objs.size items:=⟨_,Heap.get?_push_size _ rfl,rfl,⟨_,rfl⟩,rfl⟩
section
variable (P:Program) (w:World)
def dR (H:Hp) (h:Heap) (a:Addr):HO->Prop
 | .lst xs=>xs.length<=sizeLine/\∃ (its:List Value) (n:Nat),Vals xs its/\h.get? a=some { cls:=.type "list",data:=.seq its.toArray n }
 | .tup xs=>xs.length<=sizeLine/\∃ its:List Value,Vals xs its/\mC h a its.toArray
 | .dK kvs=>kvs.length<=sizeLine/\(a == sysModules)=false/\∃ vs,KV kvs vs/\h.DictOf (bW P w) a vs
 | .dT kvs=>kvs.length<=sizeLine/\(a == sysModules)=false/\∃ xs:List (List Key × Addr × Value),
     Paired (fun (p:List Key × V) (q:List Key × Addr × Value)=>p.1=q.1/\H q.2.1=some (.tup (p.1.map kV))/\RelV p.2 q.2.2) kvs xs /\
     ∃ o es ep,h.get? a=some o/\o.ExactDict/\o.data=.dict es ep/\es.toList=xs.map (entryOfKey (tupleKind (bW P w)))/\(xs.map (·.1)).Nodup
 | .set S n=>h.SetOf (intKind P w) a S n
 | .ins C dx fs=>H dx=some (.own a)/\fs.length<=1000/\dx≠a/\h.get? a=some (PySem.W.instObj C dx) /\
     ∃ mA,h.Ns1 dx mA/\(∀ f,rF (fs.lookup f) (mA f))/\PySem.Within mA (fs.map (·.1))
 | .own _=>∃ o,h.get? a=some o
 | .xd fs=>∃ mA,h.Ns1 a mA/\∀ f,rF (fs.lookup f) (mA f)
 | .rng lo hi=>∃ t u v,h.get? a=some { cls:=.type "range",data:=.fields #[.int lo t,.int hi u,.int 1 v] }
 | .nu o u=>h.get? a=some o/\dR H h a u
 | .WM ps=>h.get? a=some { cls:=.none,data:=.fields ps }
 | .met f x=>h.get? a=some (PySem.W.methodObj (.ref f) (.ref x))
 | .ext φ=>φ h/\(∃ o,h.get? a=some o)/\∀ h1 h2:Heap,φ h1->(∀ o,h1.get? a=some o->h2.get? a=some o)->φ h2
def pY (H:Hp) (h:Heap):Prop:=∀ a o,H a=some o->dR P w H h a o
end
section
variable {P:Program} {w:World} {H H':Hp} {h h':Heap} {a:Addr} {o:HO}
theorem dR.lt (x:dR P w H h a o):a<h.objs.size:=by
 cases o with
 | lst xs=>obtain ⟨_,_,_,_,e⟩:=x; exact Heap.lt_size e
 | tup xs=>obtain ⟨_,_,_,_,e,_⟩:=x; exact Heap.lt_size e
 | dK kvs=>obtain ⟨_,_,_,_,o,_,_,e,_⟩:=x; exact Heap.lt_size e
 | dT kvs=>obtain ⟨_,_,_,_,o,_,_,e,_⟩:=x; exact Heap.lt_size e
 | set S n=>obtain ⟨o,_,_,_,e,_⟩:=x; exact Heap.lt_size e
 | ins C dx fs=>obtain ⟨_,_,_,e,_⟩:=x; exact Heap.lt_size e
 | own y=>obtain ⟨_,e⟩:=x; exact Heap.lt_size e
 | xd fs=>obtain ⟨_,⟨_,_,_,e,_⟩,_⟩:=x; exact Heap.lt_size e
 | rng lo hi=>obtain ⟨_,_,_,e⟩:=x; exact Heap.lt_size e
 | nu ob u=>obtain ⟨e,_⟩:=x; exact Heap.lt_size e
 | WM ps=>exact Heap.lt_size (show h.get? a=some _ from x)
 | met f y=>exact Heap.lt_size (show h.get? a=some _ from x)
 | ext φ=>obtain ⟨_,⟨_,e⟩,_⟩:=x; exact Heap.lt_size e
theorem Paired.WQ {α β:Type} {F G:α->β->Prop}:∀ {l₁:List α} {l₂:List β},Paired F l₁ l₂->(∀ a b,F a b->G a b)->Paired G l₁ l₂
 | _,_,.nil,_=>.nil
 | _,_,.cons r t,f=>.cons (f _ _ r) (Paired.WQ t f)
theorem dR.stay (x:dR P w H h a o) (k:∀ b u,(b=a∨H b=some (.own a))->h.get? b=some u->h'.get? b=some u)
   (ho:∀ b,H b=some (.own a)->H' b=some (.own a)) (ht:∀ b xs,H b=some (.tup xs)->H' b=some (.tup xs)):dR P w H' h' a o:=by
 induction o with
 | lst xs=>obtain ⟨z,its,n,r,e⟩:=x; exact ⟨z,its,n,r,k _ _ (.inl rfl) e⟩
 | tup xs=>obtain ⟨z,its,r,ob,e,c⟩:=x; exact ⟨z,its,r,ob,k _ _ (.inl rfl) e,c⟩
 | dK kvs=>obtain ⟨z,y,vs,r,ob,es,ep,e,c⟩:=x; exact ⟨z,y,vs,r,ob,es,ep,k _ _ (.inl rfl) e,c⟩
 | dT kvs =>
   obtain ⟨z,y,xs,r,ob,es,ep,e,c⟩:=x
   exact ⟨z,y,xs,Paired.WQ r fun p q z=>⟨z.1,ht _ _ z.2.1,z.2.2⟩,ob,es,ep,k _ _ (.inl rfl) e,c⟩
 | set S n=>obtain ⟨ob,es,ep,t,e,c⟩:=x; exact ⟨ob,es,ep,t,k _ _ (.inl rfl) e,c⟩
 | ins C dx fs =>
   obtain ⟨d,z,ne,e,mA,⟨od,es,ep,e2,c⟩,r⟩:=x
   exact ⟨ho _ d,z,ne,k _ _ (.inl rfl) e,mA,⟨od,es,ep,k _ _ (.inr d) e2,c⟩,r⟩
 | own y=>obtain ⟨ob,e⟩:=x; exact ⟨ob,k _ _ (.inl rfl) e⟩
 | xd fs=>obtain ⟨mA,⟨od,es,ep,e,c⟩,r⟩:=x; exact ⟨mA,⟨od,es,ep,k _ _ (.inl rfl) e,c⟩,r⟩
 | rng lo hi=>obtain ⟨t,u,v,e⟩:=x; exact ⟨t,u,v,k _ _ (.inl rfl) e⟩
 | nu ob u ih=>obtain ⟨e,q⟩:=x; exact ⟨k _ _ (.inl rfl) e,ih q⟩
 | WM ps =>
   have e:h.get? a=some { cls:=.none,data:=.fields ps }:=x
   show h'.get? a=some { cls:=.none,data:=.fields ps }
   exact k a _ (.inl rfl) e
 | met f y =>
   have e:h.get? a=some (PySem.W.methodObj (.ref f) (.ref y)):=x
   show h'.get? a=some (PySem.W.methodObj (.ref f) (.ref y))
   exact k a _ (.inl rfl) e
 | ext φ=>obtain ⟨p,⟨o,e⟩,st⟩:=x; exact ⟨st _ _ p fun o q=>k _ _ (.inl rfl) q,⟨o,k _ _ (.inl rfl) e⟩,st⟩
theorem pY.lt (x:pY P w H h) (e:H a=some o):a<h.objs.size:=(x a o e).lt
theorem pY.fresh (x:pY P w H h) (e:h.objs.size<=a):H a=none:=by
 cases q:H a with
 | none=>rfl
 | some u=>exact absurd (Nat.lt_of_lt_of_le (x.lt q) e) (Nat.lt_irrefl _)
theorem pY.kept (x:pY P w H h) (k:∀ b u,h.get? b=some u->h'.get? b=some u):pY P w H h':=fun a o e =>
 (x a o e).stay (fun b u _ q=>k b u q) (fun _ q=>q) fun _ _ q=>q
theorem pY.laid (x:pY P w H h) (k:∀ b u,h.get? b=some u->h'.get? b=some u) (hp:h.objs.size<=a) (new:dR P w (upd H a o) h' a o):pY P w (upd H a o) h':=fun b u e=>by
 have hn:=x.fresh hp
 by_cases hb:b=a
 . subst hb; rw [aq] at e; cases e; exact new
 . rw [aL hb] at e
   exact (x b u e).stay (fun c v _ q=>k c v q) (fun c q=>by rw [aL (aN q hn)]; exact q) fun c xs q=>by rw [aL (aN q hn)]; exact q
end
def Rd (H:Hp) (a:Addr) (u:HO):Prop:=H a=some u∨∃ o,H a=some (.nu o u)
theorem Rd.ok {P:Program} {w:World} {H:Hp} {h:Heap} {a:Addr} {u:HO} (r:Rd H a u) (x:pY P w H h):dR P w H h a u:=by
 rcases r with r | ⟨o,r⟩
 . exact x a u r
 . obtain ⟨_,q⟩:=x a _ r
   exact q
def Mut:Option HO->Prop
 | some (.lst _)=>True
 | some (.dK _)=>True
 | some (.dT _)=>True
 | some (.set _ _)=>True
 | some (.ins _ _ _)=>True
 | some (.ext _)=>True
 | _=>False
section
variable {P:Program} {w:World} {H:Hp} {h h':Heap} {x e:Addr} {o':HO}
theorem pY.write (ok:pY P w H h) (mu:Mut (H x)) (he:e=x∨H e=some (.own x)) (k:∀ b u,b≠e->h.get? b=some u->h'.get? b=some u) (heo:∃ u,h'.get? e=some u)
   (new:dR P w (upd H x o') h' x o'):pY P w (upd H x o') h':=fun b u q=>by
 have aaz:∀ c y,H c=some (.own y)->c≠x:=fun c y r z=>by subst z; rw [r] at mu; exact mu
 have aea:∀ c xs,H c=some (.tup xs)->c≠x:=fun c xs r z=>by subst z; rw [r] at mu; exact mu
 by_cases hb:b=x
 . subst hb; rw [aq] at q; cases q; exact new
 . rw [aL hb] at q
   by_cases hbe:b=e
   . have q':H b=some (.own x):=by
       rcases he with z | z
       . exact absurd (hbe.trans z) hb
       . rw [hbe]; exact z
     rw [q] at q'; cases q'
     obtain ⟨v,hv⟩:=heo
     exact ⟨v,by rw [hbe]; exact hv⟩
   . refine (ok b u q).stay (fun c v hc r=>k c v ?_ r) (fun c r=>by rw [aL (aaz c b r)]; exact r) fun c xs r=>by rw [aL (aea c xs r)]; exact r
     rcases hc with rfl | hc
     . exact hbe
     . rintro rfl
       rcases he with z | z
       . exact aaz c b hc z
       . rw [hc] at z; cases z; exact hb rfl
end
structure Un (fs ex:List Addr) (H H':Hp) (h h':Heap):Prop where
 keep:∀ b o,h.get? b=some o->H b=none->b ∉ fs->b ∉ ex->h'.get? b=some o
 slot:∀ b o,h.get? b=some o->H b=none->b∈fs->b ∉ ex->∃ sl,h'.get? b=some { o with slots:=sl }
 free:∀ b o,h.get? b=some o->H b=none->b ∉ ex->H' b=none
 there:∀ b o,h.get? b=some o->b ∉ ex->∃ o',h'.get? b=some o'
 tups:∀ b xs,H b=some (.tup xs)->H' b=some (.tup xs)
 yE:∀ b o u,H b=some (.nu o u)->H' b=some (.nu o u)
 Ar:∀ b ps,H b=some (.WM ps)->∃ more,H' b=some (.WM (ps++more))
section
variable {fs fs' ex ex':List Addr} {H H1 H2:Hp} {h h1 h2 h':Heap} {a x e:Addr} {o:HO}
theorem Un.any (u:Un fs ex H H1 h h1) {b:Addr} {ob:Obj} (q:h.get? b=some ob) (n:H b=none) (hx:b ∉ ex):∃ sl,h1.get? b=some { ob with slots:=sl }:=by
 by_cases hb:b∈fs
 . exact u.slot b ob q n hb hx
 . exact ⟨ob.slots,u.keep b ob q n hb hx⟩
theorem Un.kept (k:∀ b u,h.get? b=some u->h'.get? b=some u):Un fs ex H H h h' :=
 ⟨fun b ob q _ _ _=>k b ob q,fun b ob q _ _ _=>⟨ob.slots,k b ob q⟩,fun _ _ _ n _=>n,fun b ob q _=>⟨ob,k b ob q⟩,fun _ _ q=>q,fun _ _ _ q=>q,fun _ ps q=>⟨#[],by rw [q]; simp⟩⟩
theorem Un.refl:Un fs ex H H h h:=Un.kept fun _ _ q=>q
theorem Un.laid (k:∀ b u,h.get? b=some u->h'.get? b=some u) (hp:h.objs.size<=a) (hn:H a=none):Un fs ex H (upd H a o) h h' where
 keep:=fun b u q _ _ _=>k b u q
 slot:=fun b u q _ _ _=>⟨u.slots,k b u q⟩
 free:=fun b u q n _=>by rw [aL (Nat.ne_of_lt (Nat.lt_of_lt_of_le (Heap.lt_size q) hp))]; exact n
 there:=fun b u q _=>⟨u,k b u q⟩
 tups:=fun b xs q=>by rw [aL (aN q hn)]; exact q
 yE:=fun b u xs q=>by rw [aL (aN q hn)]; exact q
 Ar:=fun b ps q=>⟨#[],by rw [aL (aN q hn),q]; simp⟩
theorem Un.write (mu:Mut (H x)) (he:e=x∨H e=some (.own x)) (k:∀ b u,b≠e->h.get? b=some u->h'.get? b=some u) (heo:∃ u,h'.get? e=some u):Un fs ex H (upd H x o) h h':=by
 have hx:∀ b,H b=none->b≠x:=fun b n z=>by subst z; rw [n] at mu; exact mu
 have hb:∀ b,H b=none->b≠e:=fun b n z=>by
   subst z
   rcases he with r | r
   . exact hx b n r
   . rw [n] at r; cases r
 have hm:∀ b u,H b=some u->¬ Mut (some u)->b≠x:=fun b u q nm z=>by subst z; rw [q] at mu; exact nm mu
 refine ⟨fun b u q n _ _=>k b u (hb b n) q,fun b u q n _ _=>⟨u.slots,k b u (hb b n) q⟩,fun b u q n _=>by rw [aL (hx b n)]; exact n,fun b u q _=>?_,
   fun b xs q=>by rw [aL (hm b _ q fun z=>z)]; exact q,fun b u xs q=>by rw [aL (hm b _ q fun z=>z)]; exact q,fun b ps q=>⟨#[],by rw [aL (hm b _ q fun z=>z),q]; simp⟩⟩
 by_cases hbe:b=e
 . subst hbe; exact heo
 . exact ⟨u,k b u hbe q⟩
end
def trk (h:Heap) (H:Hp):List Addr:=(List.range h.objs.size).filter fun a=>(H a).isSome
def yF (h:Heap) (H:Hp):Heap:=PySem.W.hideAll h (trk h H)
theorem Jw (h:Heap) (H:Hp):(yF h H).objs.size=h.objs.size:=PySem.W.hideAll_size _ _
theorem MF {h:Heap} {H:Hp} {b:Addr} {o:Obj} (e:h.get? b=some o) (n:H b=none):(yF h H).get? b=some o :=
 PySem.W.hideAll_get _ e fun hm=>by
   have q:(H b).isSome=true:=(List.mem_filter.mp hm).2
   rw [n] at q; simp at q
theorem RK {h:Heap} {H:Hp} {b:Addr} {o:Obj} (e:(yF h H).get? b=some o):h.get? b=some o/\H b=none:=by
 have e':h.get? b=some o:=PySem.W.of_hideAll (trk h H) e
 refine ⟨e',?_⟩
 cases q:H b with
 | none=>rfl
 | some x =>
   have hm:b∈trk h H:=List.mem_filter.mpr ⟨List.mem_range.mpr (Heap.lt_size e'),by simp [q]⟩
   have z:(yF h H).get? b=none:=PySem.W.hideAll_none (trk h H) hm
   rw [z] at e; cases e
end L2
namespace L2
open PySem PySem.Spec PyProof.Rows
structure Mod (K:PySem.W.Frag) (mg:Str->Option Value) (base:Heap):Prop where
 kin:K.In base
 glob:base.Ns mainGlobals mg
 blt:∃ mb,base.Ns builtinsNs mb/\∀ x:Str,x≠"__name__"->mb x=bootBuiltins x
 nolimit:base.NoLimit
structure Cx where
 prog:Program
 w:World
 K:PySem.W.Frag
 mg:Str->Option Value
 base:Heap
 A:Around
 N:List Str
 s₀:Shared
 H₀:Hp
 env:Env
 outer:List Env
 stack:List Env
 ex:List Addr
 fn:Str->Bool
 calm:Bool
 pn:List (Addr × Obj)
 xe:Value->Shared->Prop
def frs (l:List Env):List Addr:=l.filterMap (·.frame)
abbrev Cx.fs (X:Cx):List Addr:=frs X.outer
def Vis (sc:Scope) (x:Str):Prop:=sc.names.lookup x=some .local∨sc.names.lookup x=some .cell∨sc.names.lookup x=some .free
def Loc (sc:Scope) (x:Str):Prop:=sc.names.lookup x=some .local∨sc.names.lookup x=some .cell
def Look (env:Env) (h:Heap) (m:Str->Option Value) (x:Str) (u:Value):Prop :=
 (env.kindOf x=some .local/\m x=some u)∨((env.kindOf x=some .cell∨env.kindOf x=some .free)/\∃ c,env.cells.lookup x=some c/\h.IsCell c (some u))
structure Cx.Ok (X:Cx):Prop where
 mod:Mod X.K X.mg X.base
 kind:X.env.scope.kind=.function
 glob:X.env.globals=mainGlobals
 blt:X.env.builtins=builtinsNs
 above:X.s₀.heap.objs.size<=X.env.locals
 inj:∀ x y c,X.env.cells.lookup x=some c->X.env.cells.lookup y=some c->x=y
 has:∀ x,(X.env.kindOf x=some .cell∨X.env.kindOf x=some .free)->∃ c,X.env.cells.lookup x=some c
 cab:∀ x c,X.fn x=true->X.env.cells.lookup x=some c->X.s₀.heap.objs.size<=c
 hd:X.calm=true->X.A.handled=none
 frames:X.A.frames=some X.stack
 stk:X.stack=X.outer∨(X.stack=X.env :: X.outer/\X.env.frame=some X.env.locals)
 Z2:∀ b∈X.ex,b≠X.env.locals/\∀ x c,X.env.cells.lookup x=some c->c≠b
 bs:∀ b o,X.base.get? b=some o->X.s₀.heap.get? b=some o/\X.H₀ b=none
 VB:X.base.objs.size<=X.s₀.heap.objs.size
 MJ:∀ b o,X.base.get? b=some o->b ∉ X.ex
 Jx:∀ b∈X.ex,b ∉ X.fs
 uM:X.s₀.heap.FunFrames X.base X.outer
 Z4:∀ b∈X.fs,X.H₀ b=none
structure Inv (X:Cx) (pins:List (Addr × Obj)) (σ:List (Option V)) (H:Hp) (s:Shared):Prop where
 ok:X.Ok
 os:s.os=X.s₀.os
 bare:AllBare s.gens
 base:Un X.fs X.ex X.H₀ H X.s₀.heap s.heap
 loc:∃ m,s.heap.Ns X.env.locals m/\∀ (i:Nat) (x:Str) (v:V),X.N[i]?=some x->σ[i]?=some (some v)->Vis X.env.scope x->∃ u,RelV v u/\Look X.env s.heap m x u
 cell:∀ x c,X.env.cells.lookup x=some c->∃ v,s.heap.IsCell c v
 free:H X.env.locals=none
 m9:∀ x c,X.env.cells.lookup x=some c->H c=none
 pin:∀ p∈X.pn++pins,s.heap.get? p.1=some p.2/\H p.1=none/\p.1≠X.env.locals/\p.1 ∉ X.fs/\∀ v,p.2.data≠.cell v
 hok:pY X.prog X.w H s.heap
 len:σ.length=X.N.length
section
variable {X:Cx} {pins:List (Addr × Obj)} {σ:List (Option V)} {H H':Hp} {s:Shared} {h':Heap}
theorem Cx.Ok.aec (ok:X.Ok) {b:Addr} {o:Obj} (e:X.base.get? b=some o):b ∉ X.fs:=fun hb=>by
 have:=(ok.uM.mem hb).1
 rw [e] at this; cases this
theorem Inv.bs (I:Inv X pins σ H s):∀ b o,X.base.get? b=some o->s.heap.get? b=some o/\H b=none:=fun b o e =>
 ⟨I.base.keep b o (I.ok.bs b o e).1 (I.ok.bs b o e).2 (I.ok.aec e) (I.ok.MJ b o e),I.base.free b o (I.ok.bs b o e).1 (I.ok.bs b o e).2 (I.ok.MJ b o e)⟩
theorem Inv.bk (I:Inv X pins σ H s):∀ b o,X.base.get? b=some o->s.heap.get? b=some o:=fun b o e=>(I.bs b o e).1
theorem Inv.mod (I:Inv X pins σ H s):Mod X.K X.mg X.base:=I.ok.mod
theorem Inv.Av (I:Inv X pins σ H s):X.K.In s.heap:=I.ok.mod.kin.keeps I.bk
theorem Inv.lt (I:Inv X pins σ H s):X.env.locals<s.heap.objs.size:=let ⟨_,hn,_⟩:=I.loc; hn.lt
theorem Inv.sz (I:Inv X pins σ H s):X.s₀.heap.objs.size<=s.heap.objs.size:=Nat.le_trans I.ok.above (Nat.le_of_lt I.lt)
theorem Inv.aed (I:Inv X pins σ H s) {a:Addr} (h:s.heap.objs.size<=a):a ∉ X.fs:=fun hb=>by
 obtain ⟨_,o,ho,_⟩:=I.ok.uM.mem hb
 exact absurd (Nat.lt_of_lt_of_le (Heap.lt_size ho) (Nat.le_trans I.sz h)) (Nat.lt_irrefl _)
theorem Inv.WR (I:Inv X pins σ H s):∀ x c,X.env.cells.lookup x=some c->c≠X.env.locals:=fun x c e z=>by
 obtain ⟨v,o,ho,hd⟩:=I.cell x c e
 obtain ⟨m,⟨o',es,ep,ho',hd',_⟩,_⟩:=I.loc
 rw [z,ho'] at ho; cases ho; rw [hd'] at hd; cases hd
theorem Inv.uM (I:Inv X pins σ H s):s.heap.FunFrames X.base X.outer:=by
 have all:∀ (l:List Env),(∀ b∈frs l,b∈X.fs)->X.s₀.heap.FunFrames X.base l->s.heap.FunFrames X.base l:=by
   intro l
   induction l with
   | nil=>intro _ _; trivial
   | cons env r ih =>
     intro hs hl
     obtain ⟨hk,⟨L,o,hf,hn,ho,hd⟩,hr⟩:=hl
     have hL:L∈X.fs:=hs L (by unfold frs; rw [List.filterMap_cons,hf]; exact List.mem_cons_self)
     obtain ⟨sl,e⟩:=I.base.slot L o ho (I.ok.Z4 L hL) hL fun z=>I.ok.Jx L z hL
     exact ⟨hk,⟨L,_,hf,hn,e,hd⟩,ih (fun b hb=>hs b (by unfold frs; rw [List.filterMap_cons,hf]; exact List.mem_cons_of_mem _ hb)) hr⟩
 exact all X.outer (fun _ hb=>hb) I.ok.uM
theorem Inv.stack (I:Inv X pins σ H s):s.heap.FunFrames X.base X.stack:=by
 rcases I.ok.stk with e | ⟨e,hf⟩
 . rw [e]; exact I.uM
 . rw [e]
   obtain ⟨m,hn,_⟩:=I.loc
   refine .cons (by rw [I.ok.kind]; decide) hf hn ?_ I.uM
   exact Heap.get?_none_of_le (Nat.le_trans I.ok.VB I.ok.above)
theorem Inv.Eb (I:Inv X pins σ H s):∀ b∈frs X.stack,b∈X.env.locals :: X.fs:=fun b hb=>by
 rcases I.ok.stk with e | ⟨e,hf⟩
 . rw [e] at hb; exact List.mem_cons_of_mem _ hb
 . rw [e] at hb
   unfold frs at hb
   rw [List.filterMap_cons,hf] at hb
   exact hb
theorem Inv.Hj (I:Inv X pins σ H s):∀ b∈frs X.stack,H b=none:=fun b hb=>by
 rcases List.mem_cons.mp (I.Eb b hb) with e | hb
 . rw [e]; exact I.free
 . obtain ⟨_,o,ho,_⟩:=I.ok.uM.mem hb
   exact I.base.free b o ho (I.ok.Z4 b hb) fun z=>I.ok.Jx b z hb
theorem Inv.step {g':Array GenState} {t':Nat} {d':Drawn} {ch:List Addr} (I:Inv X pins σ H s)
   (hch:∀ b∈ch,(b∈X.ex∨X.s₀.heap.objs.size<=b)/\b≠X.env.locals/\(∀ x c,X.env.cells.lookup x=some c->c≠b)/\∀ p∈X.pn++pins,p.1≠b)
   (keep:∀ b o,b≠X.env.locals->b ∉ X.fs->b ∉ ch->s.heap.get? b=some o->H b=none->h'.get? b=some o)
   (slot:∀ b o,b≠X.env.locals->b∈X.fs->b ∉ ch->s.heap.get? b=some o->H b=none->∃ sl,h'.get? b=some { o with slots:=sl }) (free:∀ b o,b ∉ ch->s.heap.get? b=some o->H b=none->H' b=none)
   (there:∀ b o,b ∉ ch->s.heap.get? b=some o->∃ o',h'.get? b=some o')
   (tups:∀ b xs,H b=some (.tup xs)->H' b=some (.tup xs)) (yE:∀ b o u,H b=some (.nu o u)->H' b=some (.nu o u)) (Ar:∀ b ps,H b=some (.WM ps)->∃ more,H' b=some (.WM (ps++more)))
   (ns:∀ m,s.heap.Ns X.env.locals m->h'.Ns X.env.locals m) (hok:pY X.prog X.w H' h') (hg:AllBare g') :
   Inv X pins σ H' { s with heap:=h',gens:=g',drawn:=d',toks:=t' }:=by
 have neL:∀ b o,X.s₀.heap.get? b=some o->b≠X.env.locals:=fun b o e=>Nat.ne_of_lt (Nat.lt_of_lt_of_le (Heap.lt_size e) I.ok.above)
 have neC:∀ b o,X.s₀.heap.get? b=some o->b ∉ X.ex->b ∉ ch:=fun b o e hx hb=>by
   rcases (hch b hb).1 with z | z
   . exact hx z
   . exact absurd (Nat.lt_of_lt_of_le (Heap.lt_size e) z) (Nat.lt_irrefl _)
 have cellK:∀ x c,X.env.cells.lookup x=some c->∀ v,s.heap.IsCell c v->h'.IsCell c v:=fun x c e v ⟨o,ho,hd⟩=>by
   have nch:c ∉ ch:=fun z=>(hch c z).2.2.1 x c e rfl
   by_cases hc:c∈X.fs
   . obtain ⟨sl,q⟩:=slot c o (I.WR x c e) hc nch ho (I.m9 x c e)
     exact ⟨_,q,hd⟩
   . exact ⟨o,keep c o (I.WR x c e) hc nch ho (I.m9 x c e),hd⟩
 refine ⟨I.ok,I.os,hg,⟨fun b o e n hb hx=>?_,fun b o e n hb hx=>?_,fun b o e n hx=>?_,fun b o e hx=>?_,fun b xs e=>tups b xs (I.base.tups b xs e),fun b o xs e=>yE b o xs (I.base.yE b o xs e),fun b ps e=>?_⟩,?_,fun x c e=>?_,?_,fun x c e=>?_,fun p hp=>?_,hok,I.len⟩
 . exact keep b o (neL b o e) hb (neC b o e hx) (I.base.keep b o e n hb hx) (I.base.free b o e n hx)
 . obtain ⟨sl,e1⟩:=I.base.slot b o e n hb hx
   obtain ⟨sl',e2⟩:=slot b _ (neL b o e) hb (neC b o e hx) e1 (I.base.free b o e n hx)
   exact ⟨sl',e2⟩
 . obtain ⟨o',e1⟩:=I.base.there b o e hx
   exact free b o' (neC b o e hx) e1 (I.base.free b o e n hx)
 . obtain ⟨o',e1⟩:=I.base.there b o e hx
   exact there b o' (neC b o e hx) e1
 . obtain ⟨m1,e1⟩:=I.base.Ar b ps e
   obtain ⟨m2,e2⟩:=Ar b _ e1
   exact ⟨m1++m2,by rw [e2,Array.append_assoc]⟩
 . obtain ⟨m,hn,hl⟩:=I.loc
   refine ⟨m,ns m hn,fun i x v e1 e2 e3=>?_⟩
   obtain ⟨u,r,l⟩:=hl i x v e1 e2 e3
   refine ⟨u,r,?_⟩
   rcases l with l | ⟨k,c,e,z⟩
   . exact .inl l
   . exact .inr ⟨k,c,e,cellK x c e _ z⟩
 . obtain ⟨v,z⟩:=I.cell x c e
   exact ⟨v,cellK x c e v z⟩
 . obtain ⟨m,⟨o,_,_,ho,_⟩,_⟩:=I.loc
   exact free _ o (fun z=>(hch _ z).2.1 rfl) ho I.free
 . obtain ⟨v,o,ho,hd⟩:=I.cell x c e
   exact free c o (fun z=>(hch c z).2.2.1 x c e rfl) ho (I.m9 x c e)
 . obtain ⟨e,n,ne,nf,d⟩:=I.pin p hp
   have nch:p.1 ∉ ch:=fun z=>(hch p.1 z).2.2.2 p hp rfl
   exact ⟨keep p.1 p.2 ne nf nch e n,free p.1 p.2 nch e n,ne,nf,d⟩
theorem Inv.un {t':Nat} (I:Inv X pins σ H s) (u:Un X.fs [] H H' s.heap h') (hok:pY X.prog X.w H' h'):Inv X pins σ H' { s with heap:=h',toks:=t' }:=by
 obtain ⟨m,⟨o,es,ep,ho,r⟩,_⟩:=id I.loc
 obtain ⟨sl,hL⟩:=u.any ho I.free (by simp)
 exact I.step (g':=s.gens) (d':=s.drawn) (ch:=[]) (fun _ z=>nomatch z) (fun b o _ hb _ e n=>u.keep b o e n hb (by simp)) (fun b o _ hb _ e n=>u.slot b o e n hb (by simp)) (fun b o _ e n=>u.free b o e n (by simp)) (fun b o _ e=>u.there b o e (by simp)) u.tups u.yE u.Ar (fun m' hm=>by
   obtain ⟨o',es',ep',ho',r'⟩:=hm
   rw [ho] at ho'; cases ho'
   exact ⟨_,es',ep',hL,r'⟩) hok I.bare
theorem Inv.call {g':Array GenState} {t':Nat} {d':Drawn} {ch:List Addr} (I:Inv X pins σ H s) (u:Un (frs X.stack) ch H H' s.heap h') (hok:pY X.prog X.w H' h') (hg:AllBare g')
   (hch:∀ b∈ch,(b∈X.ex∨X.s₀.heap.objs.size<=b)/\b≠X.env.locals/\(∀ x c,X.env.cells.lookup x=some c->c≠b)/\∀ p∈X.pn++pins,p.1≠b) :
   Inv X pins σ H' { s with heap:=h',gens:=g',drawn:=d',toks:=t' }:=by
 obtain ⟨m,⟨o,es,ep,ho,r⟩,_⟩:=id I.loc
 obtain ⟨sl,hL⟩:=u.any ho I.free fun z=>(hch _ z).2.1 rfl
 exact I.step (ch:=ch) hch (fun b o hL hb hc e n=>u.keep b o e n (fun z=>(List.mem_cons.mp (I.Eb b z)).elim hL hb) hc) (fun b o _ _ hc e n=>u.any e n hc) (fun b o hc e n=>u.free b o e n hc) (fun b o hc e=>u.there b o e hc) u.tups u.yE u.Ar (fun m' hm=>by
   obtain ⟨o',es',ep',ho',r'⟩:=hm
   rw [ho] at ho'; cases ho'
   exact ⟨_,es',ep',hL,r'⟩) hok hg
theorem Inv.turned {t':Nat} {it:Addr} (I:Inv X pins σ H s) (k:∀ b o,b≠it->s.heap.get? b=some o->h'.get? b=some o) (hn:H it=none) (hL:it≠X.env.locals)
   (h1:it∈X.ex∨X.s₀.heap.objs.size<=it) (h2:∀ x c,X.env.cells.lookup x=some c->c≠it) (h3:∀ p∈X.pn++pins,p.1≠it):Inv X pins σ H { s with heap:=h',toks:=t' }:=by
 have nit:∀ b u,H b=some u->b≠it:=fun b u e z=>by rw [z,hn] at e; cases e
 refine I.step (g':=s.gens) (d':=s.drawn) (ch:=[it]) (fun b hb=>?_) (fun b o _ _ hc e _=>k b o (fun z=>hc (by simp [z])) e) (fun b o _ _ hc e _=>⟨o.slots,k b o (fun z=>hc (by simp [z])) e⟩) (fun _ _ _ _ n=>n)
   (fun b o hc e=>⟨o,k b o (fun z=>hc (by simp [z])) e⟩) (fun _ _ e=>e) (fun _ _ _ e=>e) (fun b ps e=>⟨#[],by rw [e]; simp⟩) (fun m hm=>?_) (fun b u e=>?_) I.bare
 . have e:b=it:=by simpa using hb
   subst e
   exact ⟨h1,hL,h2,h3⟩
 . obtain ⟨o,es,ep,ho,r⟩:=hm
   exact ⟨o,es,ep,k _ o (Ne.symm hL) ho,r⟩
 . refine (I.hok b u e).stay (fun c v hc q=>k c v ?_ q) (fun _ q=>q) fun _ _ q=>q
   rcases hc with z | z
   . rw [z]; exact nit b u e
   . exact nit c _ z
theorem Inv.tok (I:Inv X pins σ H s) (t:Nat):Inv X pins σ H { s with toks:=t }:=I.un (h':=s.heap) (t':=t) Un.refl I.hok
theorem Inv.kept {t':Nat} (I:Inv X pins σ H s) (k:∀ b u,s.heap.get? b=some u->h'.get? b=some u):Inv X pins σ H { s with heap:=h',toks:=t' }:=I.un (Un.kept k) (I.hok.kept k)
theorem Inv.laid {a:Addr} {o:HO} {t':Nat} (I:Inv X pins σ H s) (k:∀ b u,s.heap.get? b=some u->h'.get? b=some u) (hp:s.heap.objs.size<=a) (new:dR X.prog X.w (upd H a o) h' a o) :
   Inv X pins σ (upd H a o) { s with heap:=h',toks:=t' }:=I.un (Un.laid k hp (I.hok.fresh hp)) (I.hok.laid k hp new)
theorem Inv.write {x e:Addr} {o:HO} {t':Nat} (I:Inv X pins σ H s) (mu:Mut (H x)) (he:e=x∨H e=some (.own x)) (k:∀ b u,b≠e->s.heap.get? b=some u->h'.get? b=some u) (heo:∃ u,h'.get? e=some u)
   (new:dR X.prog X.w (upd H x o) h' x o):Inv X pins σ (upd H x o) { s with heap:=h',toks:=t' }:=I.un (Un.write mu he k heo) (I.hok.write mu he k heo new)
theorem Inv.Hl {VD:List (Addr × Obj)} (I:Inv X pins σ H s) (h:∀ p∈VD,s.heap.get? p.1=some p.2/\H p.1=none/\p.1≠X.env.locals/\p.1 ∉ X.fs/\∀ v,p.2.data≠.cell v):Inv X VD σ H s :=
 ⟨I.ok,I.os,I.bare,I.base,I.loc,I.cell,I.free,I.m9,fun p hp=>(List.mem_append.mp hp).elim (fun z=>I.pin p (List.mem_append_left _ z)) (h p),I.hok,I.len⟩
theorem Aw {N:List Str} (hN:N.Nodup) {i j:Nat} {x:Str} (a:N[i]?=some x) (b:N[j]?=some x):i=j:=by
 obtain ⟨h1,e1⟩:=List.getElem?_eq_some_iff.mp a
 obtain ⟨h2,e2⟩:=List.getElem?_eq_some_iff.mp b
 exact (List.getElem_inj hN).mp (e1.trans e2.symm)
theorem wO {M:Model} {A:Around} {E:Value->Shared->Prop} {i:Nat} {x:Str} {v:V} {u:Value} {Q:Unit->Shared->Prop} (I:Inv X pins σ H s) (hN:X.N.Nodup) (hi:X.N[i]?=some x) (hx:Loc X.env.scope x) (r:RelV v u)
   (h:∀ s',Inv X pins (σ.set i (some v)) H s'->(∃ a,Heap.SameBut a s.heap s'.heap/\(a=X.env.locals∨X.env.cells.lookup x=some a))->Q () s') (hf:X.fn x=true∨X.env.scope.names.lookup x=some .local:=by first | exact .inl rfl | exact .inr rfl | assumption):wpAny M A (storeName X.env x u) Q E s:=by
 obtain ⟨m,hn,hl⟩:=id I.loc
 have hcls:(X.env.scope.kind == .class || (X.env.scope.kind == .module && X.env.locals != X.env.globals))=false:=by rw [I.ok.kind]; rfl
 have akC:i<σ.length:=by rw [I.len]; exact (List.getElem?_eq_some_iff.mp hi).1
 have WR:=I.WR
 have tracked:∀ {a:Addr} {h':Heap},(∃ o,s.heap.get? a=some o/\H a=none)->Heap.SameBut a s.heap h'->pY X.prog X.w H h':=fun {a h'} ha hs b ob e=>by
   obtain ⟨_,_,hfree⟩:=ha
   refine (I.hok b ob e).stay (fun c w' hc q=>(hs.2 c ?_).trans q) (fun _ q=>q) fun _ _ q=>q
   rintro rfl
   rcases hc with rfl | hc
   . rw [hfree] at e; cases e
   . rw [hfree] at hc; cases hc
 rcases hx with hk | hk
 . refine wpAny_storeName_local hk hn (fun h' hn' hs=>?_) hcls
   obtain ⟨oL,_,_,hoL,_⟩:=id hn
   refine h _ ⟨I.ok,I.os,I.bare,⟨fun b o e n hb hx=>?_,fun b o e n hb hx=>?_,I.base.free,fun b o e hx=>?_,I.base.tups,I.base.yE,I.base.Ar⟩,⟨_,hn',fun j y v' e1 e2 e3=>?_⟩,fun y c e=>?_,I.free,I.m9,fun p hp=>?_,tracked ⟨oL,hoL,I.free⟩ hs,by simpa using I.len⟩ ⟨_,hs,.inl rfl⟩
   . exact (hs.2 b (Nat.ne_of_lt (Nat.lt_of_lt_of_le (Heap.lt_size e) I.ok.above))).trans (I.base.keep b o e n hb hx)
   . obtain ⟨sl,e1⟩:=I.base.slot b o e n hb hx
     exact ⟨sl,(hs.2 b (Nat.ne_of_lt (Nat.lt_of_lt_of_le (Heap.lt_size e) I.ok.above))).trans e1⟩
   . obtain ⟨o',e1⟩:=I.base.there b o e hx
     exact ⟨o',(hs.2 b (Nat.ne_of_lt (Nat.lt_of_lt_of_le (Heap.lt_size e) I.ok.above))).trans e1⟩
   . by_cases hj:j=i
     . subst hj
       rw [hi] at e1; cases e1
       rw [List.getElem?_set_self akC] at e2
       cases e2
       exact ⟨u,r,.inl ⟨hk,by simp⟩⟩
     . rw [List.getElem?_set_ne (Ne.symm hj)] at e2
       obtain ⟨u',r',q⟩:=hl j y v' e1 e2 e3
       refine ⟨u',r',?_⟩
       rcases q with ⟨k,e⟩ | ⟨k,c,e,z⟩
       . refine .inl ⟨k,?_⟩
         have:y≠x:=fun e=>hj (Aw hN e1 (e ▸ hi))
         simp [this,e]
       . exact .inr ⟨k,c,e,z.sameBut hs (WR y c e)⟩
   . obtain ⟨w',z⟩:=I.cell y c e
     exact ⟨w',z.sameBut hs (WR y c e)⟩
   . obtain ⟨e,n,ne,nf,d⟩:=I.pin p hp
     exact ⟨(hs.2 p.1 ne).trans e,n,ne,nf,d⟩
 . have hfn:X.fn x=true:=by
     rcases hf with z | z
     . exact z
     . rw [z] at hk; cases hk
   obtain ⟨c,hc⟩:=I.ok.has x (.inl hk)
   obtain ⟨w',z⟩:=I.cell x c hc
   refine wpAny_storeName_cell I.ok.kind hk hc z (fun h' hc' hs=>?_)
   obtain ⟨oc,hoc,aee⟩:=id z
   refine h { s with heap:=h' } ⟨I.ok,I.os,I.bare,⟨fun b o e n hb hx=>?_,fun b o e n hb hx=>?_,I.base.free,fun b o e hx=>?_,I.base.tups,I.base.yE,I.base.Ar⟩,⟨m,hn.sameBut hs (Ne.symm (WR x c hc)),fun j y v' e1 e2 e3=>?_⟩,fun y c' e=>?_,I.free,I.m9,fun p hp=>?_,tracked ⟨oc,hoc,I.m9 x c hc⟩ hs,by simpa using I.len⟩ ⟨c,hs,.inr hc⟩
   . exact (hs.2 b (Nat.ne_of_lt (Nat.lt_of_lt_of_le (Heap.lt_size e) (I.ok.cab x c hfn hc)))).trans (I.base.keep b o e n hb hx)
   . obtain ⟨sl,e1⟩:=I.base.slot b o e n hb hx
     exact ⟨sl,(hs.2 b (Nat.ne_of_lt (Nat.lt_of_lt_of_le (Heap.lt_size e) (I.ok.cab x c hfn hc)))).trans e1⟩
   . obtain ⟨o',e1⟩:=I.base.there b o e hx
     exact ⟨o',(hs.2 b (Nat.ne_of_lt (Nat.lt_of_lt_of_le (Heap.lt_size e) (I.ok.cab x c hfn hc)))).trans e1⟩
   . by_cases hj:j=i
     . subst hj
       rw [hi] at e1; cases e1
       rw [List.getElem?_set_self akC] at e2
       cases e2
       exact ⟨u,r,.inr ⟨.inl hk,c,hc,hc'⟩⟩
     . rw [List.getElem?_set_ne (Ne.symm hj)] at e2
       obtain ⟨u',r',q⟩:=hl j y v' e1 e2 e3
       refine ⟨u',r',?_⟩
       rcases q with q | ⟨k,c',e,z'⟩
       . exact .inl q
       . refine .inr ⟨k,c',e,z'.sameBut hs ?_⟩
         rintro rfl
         exact hj (Aw hN e1 (I.ok.inj _ _ _ e hc ▸ hi))
   . by_cases hcc:c'=c
     . subst hcc; exact ⟨_,hc'⟩
     . obtain ⟨w2,z2⟩:=I.cell y c' e
       exact ⟨w2,z2.sameBut hs hcc⟩
   . obtain ⟨e,n,ne,nf,d⟩:=I.pin p hp
     refine ⟨(hs.2 p.1 ?_).trans e,n,ne,nf,d⟩
     intro q
     rw [q,hoc] at e
     have q':oc=p.2:=Option.some.inj e
     exact d w' (by rw [<- q']; exact aee)
theorem Ax {M:Model} {A:Around} {E:Value->Shared->Prop} {i:Nat} {x:Str} {v:V} {u:Value} {Q:Unit->Shared->Prop} (I:Inv X pins σ H s) (hN:X.N.Nodup) (hi:X.N[i]?=some x) (hx:Loc X.env.scope x) (r:RelV v u)
   (h:∀ s',Inv X pins (σ.set i (some v)) H s'->Q () s') (hf:X.fn x=true∨X.env.scope.names.lookup x=some .local:=by first | exact .inl rfl | exact .inr rfl | assumption):wpAny M A (storeName X.env x u) Q E s :=
 wO I hN hi hx r (fun s' I' _=>h s' I') hf
theorem Inv.call' {s':Shared} {ch:List Addr} (I:Inv X pins σ H s) (ho:s'.os=s.os) (u:Un (frs X.stack) ch H H' s.heap s'.heap) (hok:pY X.prog X.w H' s'.heap) (hg:AllBare s'.gens)
   (hch:∀ b∈ch,(b∈X.ex∨X.s₀.heap.objs.size<=b)/\b≠X.env.locals/\(∀ x c,X.env.cells.lookup x=some c->c≠b)/\∀ p∈X.pn++pins,p.1≠b):Inv X pins σ H' s':=by
 obtain ⟨h',g',d',t',o'⟩:=s'
 have e:o'=s.os:=ho
 subst e
 exact I.call (g':=g') (t':=t') (d':=d') u hok hg hch
end
abbrev XK:=Value->Option Addr->Hp->Prop
abbrev St:=List (Option V)
abbrev VK:=V->Hp->Prop
abbrev TE:=St->Hp->VK->Prop
abbrev TT:=St->Hp->(Bool->Hp->Prop)->Prop
abbrev TA:=St->Hp->(List V->Hp->Prop)->Prop
structure Ends where
 nx:St->Hp->Prop
 rt:VK
 bk:St->Hp->Prop:=fun _ _=>False
 ct:St->Hp->Prop:=fun _ _=>False
abbrev TS:=Ends->St->Hp->Prop
def EP (X:Cx) (pins:List (Addr × Obj)) (σ:St) (Q:VK) (u:Value) (s':Shared):Prop:=∃ v H',Inv X pins σ H' s'/\RelV v u/\Q v H'
def TP (X:Cx) (pins:List (Addr × Obj)) (σ:St) (Q:Bool->Hp->Prop) (b:Bool) (s':Shared):Prop:=∃ H',Inv X pins σ H' s'/\Q b H'
def AP (X:Cx) (pins:List (Addr × Obj)) (σ:St) (Q:List V->Hp->Prop) (us:List Value) (s':Shared):Prop:=∃ vs H',Inv X pins σ H' s'/\Vals vs us/\Q vs H'
def SP (X:Cx) (pins:List (Addr × Obj)) (D:Ends) (f:Flow) (s':Shared):Prop :=
 match f with
 | .next=>∃ σ' H',Inv X pins σ' H' s'/\D.nx σ' H'
 | .brk=>∃ σ' H',Inv X pins σ' H' s'/\D.bk σ' H'
 | .cont=>∃ σ' H',Inv X pins σ' H' s'/\D.ct σ' H'
 | .ret u=>∃ v σ' H',Inv X pins σ' H' s'/\RelV v u/\D.rt v H'
def PE (X:Cx) (e:Expr) (t:TE):Prop :=
 ∀ (pins:List (Addr × Obj)) (s:Shared) (σ:St) (H:Hp) (Q:VK),Inv X pins σ H s->t σ H Q->wpAny (model X.prog X.w) X.A (eval e X.env) (EP X pins σ Q) X.xe s
def PT (X:Cx) (e:Expr) (t:TT):Prop :=
 ∀ (pins:List (Addr × Obj)) (s:Shared) (σ:St) (H:Hp) (Q:Bool->Hp->Prop),Inv X pins σ H s->t σ H Q->wpAny (model X.prog X.w) X.A (isTrue e X.env (eval e X.env)) (TP X pins σ Q) X.xe s
def PW (X:Cx) (e:Expr) (t:TT):Prop :=
 ∀ (whole:Sem Value) (pins:List (Addr × Obj)) (s:Shared) (σ:St) (H:Hp) (Q:Bool->Hp->Prop),Inv X pins σ H s->t σ H Q->wpAny (model X.prog X.w) X.A (isTrue e X.env whole) (TP X pins σ Q) X.xe s
theorem PW.pt {X:Cx} {e:Expr} {t:TT} (h:PW X e t):PT X e t:=h _
def PA (X:Cx) (es:List Expr) (t:TA):Prop :=
 ∀ (pos:Pos) (pins:List (Addr × Obj)) (s:Shared) (σ:St) (H:Hp) (Q:List V->Hp->Prop),Inv X pins σ H s->t σ H Q->wpAny (model X.prog X.w) X.A (spliced (backTo pos (starEach es X.env))) (AP X pins σ Q) X.xe s
def PS (X:Cx) (st:Stmt) (t:TS):Prop :=
 ∀ (pins:List (Addr × Obj)) (s:Shared) (σ:St) (H:Hp) (D:Ends),Inv X pins σ H s->t D σ H->wpAny (model X.prog X.w) X.A (exec st X.env) (SP X pins D) X.xe s
def Jy (X:Cx) (st:List Stmt) (t:TS):Prop :=
 ∀ (pins:List (Addr × Obj)) (s:Shared) (σ:St) (H:Hp) (D:Ends),Inv X pins σ H s->t D σ H->wpAny (model X.prog X.w) X.A (execs st X.env) (SP X pins D) X.xe s
theorem eE {α:Type} {t:Sem α} {Q Q':α->Shared->Prop} {M:Model} {A:Around} {E:Value->Shared->Prop} {s:Shared} (h:wpAny M A t Q E s) (hQ:∀ a s,Q a s->Q' a s):wpAny M A t Q' E s:=wpAny_mono h hQ fun _ _ x=>x
end L2
namespace L2
open PySem PySem.Spec PyProof.Rows
section
variable {X:Cx}
theorem bin {a b:Expr} {ta tb:TE} (ha:PE X a ta) (hb:PE X b tb) {pins:List (Addr × Obj)} {s:Shared} {σ:St} {H:Hp} {R:V->V->Hp->Prop} (I:Inv X pins σ H s) (h:ta σ H fun x H1=>tb σ H1 fun y H2=>R x y H2)
   {α:Type} {Q:α->Shared->Prop} {f:Value->Value->Sem α}
   (hf:∀ v u s2 x y H2,Inv X pins σ H2 s2->RelV x v->RelV y u->R x y H2->wpAny (model X.prog X.w) X.A (f v u) Q X.xe s2) :
   wpAny (model X.prog X.w) X.A (eval a X.env) (fun v s₁=>wpAny (model X.prog X.w) X.A (eval b X.env) (fun u s₂=>wpAny (model X.prog X.w) X.A (f v u) Q X.xe s₂) X.xe s₁) X.xe s:=by
 refine eE (ha pins s σ H _ I h) fun v s1 ⟨x,H1,I1,r1,q1⟩=>?_
 refine eE (hb pins s1 σ H1 _ I1 q1) fun u s2 ⟨y,H2,I2,r2,q2⟩=>?_
 exact hf v u s2 x y H2 I2 r1 r2 q2
def aef (i:Nat):TE:=fun σ H Q=>∃ v,σ[i]?=some (some v)/\Q v H
def tC (v:V):TE:=fun _ H Q=>Q v H
theorem WT {i:Nat} {x:Str} {pos:Pos} (hN:X.N[i]?=some x) (hv:Vis X.env.scope x) (hd:(x == ("__debug__" : Str))=false:=by decide) (hcd:(x == ("__classdict__" : Str))=false:=by decide):PE X (.Name x pos) (aef i):=by
 intro pins s σ H Q I h
 obtain ⟨v,e,h⟩:=h
 obtain ⟨m,hn,hl⟩:=I.loc
 obtain ⟨u,r,l⟩:=hl i x v hN e hv
 have fin:EP X pins σ Q u s:=⟨v,H,I,r,h⟩
 rcases l with ⟨hk,hm⟩ | ⟨hk,c,hc,hcell⟩
 . exact wpAny_Name (wpAny_loadName_local I.ok.kind hk hn hm fin) hd
 . rcases hk with hk | hk
   . exact wpAny_Name (wpAny_loadName_cell I.ok.kind hk hc hcell fin) hd
   . exact wpAny_Name (wpAny_loadName_free I.ok.kind hk hc hcell fin hcd) hd
theorem aD {i j pos}:PE X (.Constant (.int i) j pos) (tC (.int i)):=fun _ _ _ H _ I h=>wpAny_Constant_int ⟨.int i,H,I.tok _,⟨_,rfl⟩,h⟩
theorem iH {b j pos}:PE X (.Constant (.bool b) j pos) (tC (.bl b)):=fun _ _ _ H _ I h=>Constant_bool ⟨.bl b,H,I,rfl,h⟩
theorem kO {j pos}:PE X (.Constant .none j pos) (tC .non):=fun _ _ _ H _ I h=>Constant_none ⟨.non,H,I,rfl,h⟩
theorem gZ {x j pos}:PE X (.Constant (.str x) j pos) (tC (.str x)):=fun _ _ _ H _ I h=>Calls.Constant_str ⟨.str x,H,I.tok _,⟨_,rfl⟩,h⟩
def Gl (X:Cx) (x:Str):Prop:=X.env.kindOf x=some .globalImplicit
theorem Ho {E:Value->Shared->Prop} {pins:List (Addr × Obj)} {s:Shared} {σ:St} {H:Hp} {x:Str} {u:Value} {pos:Pos} {Q:Value->Shared->Prop} (I:Inv X pins σ H s) (hg:Gl X x) (hm:X.mg x=some u) (h:Q u s)
   (hd:(x == ("__debug__" : Str))=false:=by decide):wpAny (model X.prog X.w) X.A (eval (.Name x pos) X.env) Q E s :=
 Calls.Name_function_global I.ok.kind hg (Calls.loadGlobal_global (by rw [I.ok.glob]; exact I.mod.glob.keeps I.bk) hm h) hd
theorem pZ {E:Value->Shared->Prop} {pins:List (Addr × Obj)} {s:Shared} {σ:St} {H:Hp} {x:Str} {u:Value} {pos:Pos} {Q:Value->Shared->Prop} (I:Inv X pins σ H s) (hg:Gl X x) (hm:X.mg x=none) (hv:bootBuiltins x=some u) (h:Q u s)
   (hn:x≠"__name__":=by decide) (hd:(x == ("__debug__" : Str))=false:=by decide):wpAny (model X.prog X.w) X.A (eval (.Name x pos) X.env) Q E s:=by
 obtain ⟨mb,h1,h2⟩:=I.mod.blt
 exact Calls.Name_function_global I.ok.kind hg (Calls.loadGlobal_builtin (by rw [I.ok.glob]; exact I.mod.glob.keeps I.bk) hm (by rw [I.ok.blt]; exact h1.keeps I.bk) ((h2 x hn).trans hv) h) hd
theorem RN {x:Str} {v:V} {u:Value} {pos:Pos} (hg:Gl X x) (hm:X.mg x=some u) (r:RelV v u) (hd:(x == ("__debug__" : Str))=false:=by decide):PE X (.Name x pos) (tC v) :=
 fun _ _ _ H _ I h=>Ho I hg hm ⟨v,H,I,r,h⟩ hd
theorem qH {x:Str} {v:V} {u:Value} {pos:Pos} (hg:Gl X x) (hm:X.mg x=none) (hv:bootBuiltins x=some u) (r:RelV v u) (hn:x≠"__name__":=by decide) (hd:(x == ("__debug__" : Str))=false:=by decide):PE X (.Name x pos) (tC v) :=
 fun _ _ _ H _ I h=>pZ I hg hm hv ⟨v,H,I,r,h⟩ hn hd
variable {a b:Expr} {ta tb:TE} {pos:Pos}
def PC (X:Cx) (op:CmpOp) (a b:Expr) (t:TE):Prop :=
 ∀ (pins:List (Addr × Obj)) (s:Shared) (σ:St) (H:Hp) (Q:VK),Inv X pins σ H s->t σ H Q ->
   wpAny (model X.prog X.w) X.A (eval a X.env) (fun v s₁=>wpAny (model X.prog X.w) X.A (eval b X.env) (fun u s₂=>wpAny (model X.prog X.w) X.A (compareOp op v u) (EP X pins σ Q) X.xe s₂) X.xe s₁) X.xe s
theorem Ay (b:Expr) {op:CmpOp} (h:op≠.In) (h2:op≠.NotIn):behindInMarks op b=false:=by
 have e1:(op == CmpOp.In)=false:=by cases op <;> first | rfl | exact absurd rfl h
 have e2:(op == CmpOp.NotIn)=false:=by cases op <;> first | rfl | exact absurd rfl h2
 cases b <;> simp [behindInMarks,e1,e2]
def aeg (ta:TE):TE:=fun σ H Q=>ta σ H fun x H1=>Q (.bl (decide (x=.non))) H1
def aaB (ta:TE):TE:=fun σ H Q=>ta σ H fun x H1=>Q (.bl (!decide (x=.non))) H1
theorem RelV.Az {x:V} {v:Value} (r:RelV x v):(v == Value.none)=decide (x=.non):=by
 cases x with
 | non=>cases r; rfl
 | bl _=>cases r; rfl
 | int _=>obtain ⟨t,rfl⟩:=r; rfl
 | str _=>obtain ⟨t,rfl⟩:=r; rfl
 | Mu _=>obtain ⟨t,rfl⟩:=r; rfl
 | flt _=>obtain ⟨t,rfl⟩:=r; rfl
 | ref _=>cases r; rfl
 | ty _=>cases r; rfl
theorem WW {j pos'} (ha:PE X a ta):PC X .Is a (.Constant .none j pos') (aeg ta):=by
 intro pins s σ H Q I h
 refine eE (ha pins s σ H _ I h) fun v s1 ⟨x,H1,I1,r1,q1⟩=>?_
 exact Constant_none (is_none_gen ⟨.bl _,H1,I1,by rw [r1.Az]; rfl,q1⟩)
theorem uw {j pos'} (ha:PE X a ta):PC X .IsNot a (.Constant .none j pos') (aaB ta):=by
 intro pins s σ H Q I h
 refine eE (ha pins s σ H _ I h) fun v s1 ⟨x,H1,I1,r1,q1⟩=>?_
 exact Constant_none (isnot_none_gen ⟨.bl _,H1,I1,by rw [r1.Az]; rfl,q1⟩)
def tB (t:TE):TT:=fun σ H Q=>t σ H fun x H1=>∃ c,x=.bl c/\Q c H1
theorem MK {op:CmpOp} {t:TE} (h:PC X op a b t) (h1:behindInMarks op b=false:=by first | exact Ay _ (by decide) (by decide) | rfl):PE X (.Compare a [op] [b] pos) t:=fun pins s σ H Q I hw=>wpAny_Compare1 (h pins s σ H Q I hw) h1
theorem rG {op:CmpOp} {t:TE} (h:PC X op a b t) (h1:behindInMarks op b=false:=by first | exact Ay _ (by decide) (by decide) | rfl):PT X (.Compare a [op] [b] pos) (tB t):=by
 intro pins s σ H Q I hw
 refine wpAny_isTrue_Compare1 (eE (h pins s σ H _ I hw) fun v s1 h1=>eE h1 fun u s2 h2=>eE h2 fun c s3 ⟨x,H1,I1,r1,q1⟩=>?_) h1
 obtain ⟨d,rfl,q⟩:=q1
 cases r1
 exact wpAny_truthy_bool ⟨H1,I1,q⟩
variable {tA Hq:TT} {rest:List Expr}
def Jz (t u:TT):TT:=fun σ H Q=>t σ H fun c H1=>if c=true then u σ H1 Q else Q false H1
def tOr (t u:TT):TT:=fun σ H Q=>t σ H fun c H1=>if c=true then Q true H1 else u σ H1 Q
def aeh (t:TT):TT:=fun σ H Q=>t σ H fun c H1=>Q (!c) H1
theorem pw_and1 (ha:PT X a tA):PW X (.BoolOp .And [a] pos) tA:=by
 intro wh pins s σ H Q I h
 refine isTrue_and (eE (ha pins s σ H Q I h) fun c s1 e=>?_)
 cases c with
 | true=>exact isTrue_and_nil e
 | false=>exact e
theorem pw_or1 (ha:PT X a tA):PW X (.BoolOp .Or [a] pos) tA:=by
 intro wh pins s σ H Q I h
 refine isTrue_or (eE (ha pins s σ H Q I h) fun c s1 e=>?_)
 cases c with
 | false=>exact isTrue_or_nil e
 | true=>exact e
theorem pw_and (ha:PT X a tA) (hb:PW X (.BoolOp .And (b :: rest) pos) Hq):PW X (.BoolOp .And (a :: b :: rest) pos) (Jz tA Hq):=by
 intro wh pins s σ H Q I h
 refine isTrue_and (eE (ha pins s σ H _ I h) fun c s1 ⟨H1,I1,q1⟩=>?_)
 cases c with
 | true=>exact hb wh pins s1 σ H1 Q I1 q1
 | false=>exact ⟨H1,I1,q1⟩
theorem pw_or (ha:PT X a tA) (hb:PW X (.BoolOp .Or (b :: rest) pos) Hq):PW X (.BoolOp .Or (a :: b :: rest) pos) (tOr tA Hq):=by
 intro wh pins s σ H Q I h
 refine isTrue_or (eE (ha pins s σ H _ I h) fun c s1 ⟨H1,I1,q1⟩=>?_)
 cases c with
 | true=>exact ⟨H1,I1,q1⟩
 | false=>exact hb wh pins s1 σ H1 Q I1 q1
theorem kW (ha:PT X a tA):PT X (.UnaryOp .Not a pos) (aeh tA):=by
 intro pins s σ H Q I h
 exact isTrue_not (ha pins s σ H (fun c H1=>Q (!c) H1) I h)
theorem uN {op} {t:TE} (h:PE X a t):PE X (.BoolOp op [a] pos) t:=fun pins s σ H Q I hw=>BoolOp_one (h pins s σ H Q I hw)
end
end L2
namespace L2
open PySem PySem.Spec PyProof.Rows
def dg (K:PySem.W.Frag) (H:Hp) (a:Addr) (xs:List V):Prop :=
 Rd H a (.lst xs) ∨
   ∃ (o:Obj) (its:Array Value) (n:Nat),K.lookup a=some o/\o.cls=.type "list"/\o.dict=none/\o.data=.seq its n/\its.size<=sizeLine/\Vals xs its.toList
def bM (K:PySem.W.Frag) (H:Hp) (a:Addr) (xs:List V):Prop :=
 Rd H a (.tup xs) ∨
   ∃ (o:Obj) (its:Array Value) (n:Nat),K.lookup a=some o/\o.cls=.type "tuple"/\o.data=.seq its n/\its.size<=sizeLine/\Vals xs its.toList
def aei:Value->Option V
 | .none=>some .non
 | .bool b=>some (.bl b)
 | .int i _=>some (.int i)
 | .str x _=>some (.str x)
 | .bytes b _=>some (.Mu b)
 | .float b _=>some (.flt b)
 | .ref a=>some (.ref a)
 | .type n=>some (.ty n)
 | _=>none
theorem RelV.abs {x:V} {u:Value} (r:RelV x u):aei u=some x:=by
 cases x with
 | non=>cases r; rfl
 | bl _=>cases r; rfl
 | int _=>obtain ⟨t,rfl⟩:=r; rfl
 | str _=>obtain ⟨t,rfl⟩:=r; rfl
 | Mu _=>obtain ⟨t,rfl⟩:=r; rfl
 | flt _=>obtain ⟨t,rfl⟩:=r; rfl
 | ref _=>cases r; rfl
 | ty _=>cases r; rfl
theorem RelV.inj {x y:V} {u:Value} (r:RelV x u) (q:RelV y u):x=y:=Option.some.inj (r.abs.symm.trans q.abs)
theorem Vals.inj:∀ {xs ys:List V} {us:List Value},Vals xs us->Vals ys us->xs=ys
 | _,_,_,.nil,.nil=>rfl
 | _,_,_,.cons r t,.cons r' t'=>by rw [r.inj r',Vals.inj t t']
section
variable {X:Cx} {pins:List (Addr × Obj)} {σ:St} {H:Hp} {s:Shared} {a:Addr} {xs ys:List V}
theorem dg.of {K:PySem.W.Frag} (h:H a=some (.lst xs)):dg K H a xs:=.inl (.inl h)
theorem bM.of {K:PySem.W.Frag} (h:H a=some (.tup xs)):bM K H a xs:=.inl (.inl h)
theorem Inv.list (I:Inv X pins σ H s) (h:dg X.K H a xs):∃ its:List Value,Vals xs its/\PlainL s.heap a its.toArray/\xs.length<=sizeLine:=by
 rcases h with h | ⟨o,its,n,hk,hc,hd,hs,hz,r⟩
 . obtain ⟨z,its,n,r,e⟩:=h.ok I.hok
   exact ⟨its,r,⟨_,n,e,rfl,rfl,rfl⟩,z⟩
 . refine ⟨its.toList,r,⟨o,n,I.Av a o hk,hc,hd,by simpa using hs⟩,?_⟩
   have e:=r.length
   simp only [Array.length_toList] at e
   omega
theorem Inv.tuple (I:Inv X pins σ H s) (h:bM X.K H a xs):∃ its:List Value,Vals xs its/\IsTup s.heap a its.toArray/\xs.length<=sizeLine:=by
 rcases h with h | ⟨o,its,n,hk,hc,hs,hz,r⟩
 . obtain ⟨z,its,r,p⟩:=h.ok I.hok
   exact ⟨its,r,p.to,z⟩
 . refine ⟨its.toList,r,⟨o,I.Av a o hk,hc,n,by simpa using hs⟩,?_⟩
   have e:=r.length
   simp only [Array.length_toList] at e
   omega
theorem Inv.MN (I:Inv X pins σ H s) (h:dg X.K H a xs) (h':dg X.K H a ys):xs=ys:=by
 obtain ⟨its,r,⟨o,n,e,_,_,d⟩,_⟩:=I.list h
 obtain ⟨its',r',⟨o',n',e',_,_,d'⟩,_⟩:=I.list h'
 rw [e] at e'; cases e'
 rw [d] at d'
 injection d' with d1 _
 have:its=its':=by simpa using congrArg Array.toList d1
 subst this
 exact r.inj r'
theorem Inv.JB (I:Inv X pins σ H s) (h:bM X.K H a xs) (h':bM X.K H a ys):xs=ys:=by
 obtain ⟨its,r,⟨o,e,_,n,d⟩,_⟩:=I.tuple h
 obtain ⟨its',r',⟨o',e',_,n',d'⟩,_⟩:=I.tuple h'
 rw [e] at e'; cases e'
 rw [d] at d'
 injection d' with d1 _
 have:its=its':=by simpa using congrArg Array.toList d1
 subst this
 exact r.inj r'
end
abbrev Cx.wish (X:Cx) (E:Value->Shared->Prop):Cx:={ X with xe:=E }
abbrev Cx.nox (X:Cx):Cx:=X.wish fun _ _=>False
theorem Cx.Ok.wish {X:Cx} (ok:X.Ok) (E:Value->Shared->Prop):(X.wish E).Ok :=
 ⟨ok.mod,ok.kind,ok.glob,ok.blt,ok.above,ok.inj,ok.has,ok.cab,ok.hd,ok.frames,ok.stk,ok.Z2,ok.bs,ok.VB,ok.MJ,ok.Jx,ok.uM,ok.Z4⟩
theorem Cx.Ok.nH {X:Cx} {E:Value->Shared->Prop} (ok:(X.wish E).Ok):X.Ok :=
 ⟨ok.mod,ok.kind,ok.glob,ok.blt,ok.above,ok.inj,ok.has,ok.cab,ok.hd,ok.frames,ok.stk,ok.Z2,ok.bs,ok.VB,ok.MJ,ok.Jx,ok.uM,ok.Z4⟩
section
variable {X:Cx} {pins:List (Addr × Obj)} {σ:St} {H:Hp} {s:Shared} {E:Value->Shared->Prop}
theorem Inv.wish (I:Inv X pins σ H s) (E:Value->Shared->Prop):Inv (X.wish E) pins σ H s:=⟨I.ok.wish E,I.os,I.bare,I.base,I.loc,I.cell,I.free,I.m9,I.pin,I.hok,I.len⟩
theorem Inv.nH (I:Inv (X.wish E) pins σ H s):Inv X pins σ H s:=⟨I.ok.nH,I.os,I.bare,I.base,I.loc,I.cell,I.free,I.m9,I.pin,I.hok,I.len⟩
theorem SP.nH {D:Ends} {f:Flow} {s':Shared} (h:SP (X.wish E) pins D f s'):SP X pins D f s':=by
 cases f with
 | next=>obtain ⟨σ',H',I,q⟩:=h; exact ⟨σ',H',I.nH,q⟩
 | brk=>obtain ⟨σ',H',I,q⟩:=h; exact ⟨σ',H',I.nH,q⟩
 | cont=>obtain ⟨σ',H',I,q⟩:=h; exact ⟨σ',H',I.nH,q⟩
 | ret u=>obtain ⟨v,σ',H',I,r,q⟩:=h; exact ⟨v,σ',H',I.nH,r,q⟩
theorem Jy.nox {st:List Stmt} {t:TS} (h:Jy X.nox st t):Jy X st t:=fun pins s σ H D I hw =>
 wpAny_mono (h pins s σ H D (I.wish _) hw) (fun _ _ q=>q.nH) fun _ _ z=>False.elim z
end
section
variable {X:Cx} {st:Stmt} {rest:List Stmt} {t u:TS} {e:Expr} {te:TE} {pos:Pos}
def Hr:TS:=fun D σ H=>D.nx σ H
def nA (t u:TS):TS:=fun D σ H=>t { D with nx:=u D } σ H
theorem bO:Jy X [] Hr:=fun _ _ σ H _ I h=>wpAny_execs_nil ⟨σ,H,I,h⟩
theorem au (h1:PS X st t) (h2:Jy X rest u):Jy X (st :: rest) (nA t u):=by
 intro pins s σ H D I h
 refine wpAny_execs_cons (eE (h1 pins s σ H { D with nx:=u D } I h) fun f s1 q=>?_)
 cases f with
 | next =>
   obtain ⟨σ',H',I',q⟩:=q
   exact h2 pins s1 σ' H' D I' q
 | ret v=>exact q
 | brk=>exact q
 | cont=>exact q
theorem aH (h1:PS X st t):Jy X [st] t:=by
 intro pins s σ H D I h
 refine wpAny_execs_cons (eE (h1 pins s σ H D I h) fun f s1 q=>?_)
 cases f with
 | next=>exact wpAny_execs_nil q
 | ret v=>exact q
 | brk=>exact q
 | cont=>exact q
theorem Inv.quiet {pins:List (Addr × Obj)} {σ:St} {H:Hp} {s:Shared} (I:Inv X pins σ H s):interactive X.env=false:=by simp [interactive,I.ok.kind]
def lD (te:TE):TS:=fun D σ H=>te σ H fun _ H1=>D.nx σ H1
theorem gB (he:PE X e te) (hs:swapsWith e none pos.line X.env=pure false:=by rfl):PS X (.Expr e pos) (lD te):=by
 intro pins s σ H D I h
 exact wpAny_Expr_any (eE (he pins s σ H _ I h) fun v s1 ⟨x,H1,I1,r1,q1⟩=>⟨σ,H1,I1,q1⟩) I.quiet hs
def WX (te:TE):TS:=fun D σ H=>te σ H D.rt
theorem aZ (he:PE X e te):PS X (.Return (some e) pos) (WX te):=by
 intro pins s σ H D I h
 exact wpAny_Return_some (eE (he pins s σ H _ I h) fun v s1 ⟨x,H1,I1,r1,q1⟩=>⟨x,σ,H1,I1,r1,q1⟩)
def Ec (c:TT) (t u:TS):TS:=fun D σ H=>c σ H fun b H1=>if b=true then t D σ H1 else u D σ H1
theorem eV {c:Expr} {a b:List Stmt} {tc:TT} (hc:PT X c tc) (ha:Jy X a t) (hb:Jy X b u):PS X (.If c a b pos) (Ec tc t u):=by
 intro pins s σ H D I h
 refine wpAny_If (eE (hc pins s σ H _ I h) fun d s1 ⟨H1,I1,q1⟩=>?_)
 cases d with
 | true=>exact ha pins s1 σ H1 D I1 q1
 | false=>exact hb pins s1 σ H1 D I1 q1
end
abbrev TG:=V->St->Hp->(St->Hp->Prop)->Prop
abbrev Ry:=List V->St->Hp->(St->Hp->Prop)->Prop
def PG (X:Cx) (target:Expr) (t:TG):Prop :=
 ∀ (pins:List (Addr × Obj)) (s:Shared) (σ:St) (H:Hp) (v:V) (u:Value) (Q:St->Hp->Prop),Inv X pins σ H s->RelV v u->t v σ H Q ->
   wpAny (model X.prog X.w) X.A (assign target X.env u) (fun _ s'=>∃ σ' H',Inv X pins σ' H' s'/\Q σ' H') X.xe s
def PGs (X:Cx) (ts:List Expr) (t:Ry):Prop :=
 ∀ (pins:List (Addr × Obj)) (s:Shared) (σ:St) (H:Hp) (vs:List V) (us:List Value) (Q:St->Hp->Prop),Inv X pins σ H s->Vals vs us->t vs σ H Q ->
   wpAny (model X.prog X.w) X.A (assignInOrder ((assignEach ts X.env).map (·.2)) us) (fun _ s'=>∃ σ' H',Inv X pins σ' H' s'/\Q σ' H') X.xe s
abbrev WY:=V->V->V->Hp->(Hp->Prop)->Prop
def W0 (X:Cx) (t:WY):Prop :=
 ∀ (pins:List (Addr × Obj)) (s:Shared) (σ:St) (H:Hp) (o i v:V) (ov iv u:Value) (Q:Hp->Prop),Inv X pins σ H s->RelV o ov->RelV i iv->RelV v u->t o i v H Q ->
   wpAny (model X.prog X.w) X.A (setItem ov iv u) (fun _ s'=>∃ H',Inv X pins σ H' s'/\Q H') X.xe s
section
variable {X:Cx} {pos:Pos}
def jE (i:Nat):TG:=fun v σ H Q=>Q (σ.set i (some v)) H
theorem aB {i:Nat} {x:Str} (hN:X.N.Nodup) (hi:X.N[i]?=some x) (hx:Loc X.env.scope x) (hf:X.fn x=true∨X.env.scope.names.lookup x=some .local:=by first | exact .inl rfl | exact .inr rfl | assumption):PG X (.Name x pos) (jE i):=by
 intro pins s σ H v u Q I r h
 exact wpAny_assign_Name (Ax I hN hi hx r (fun s' I'=>⟨_,H,I',h⟩) hf)
def aaD:Ry:=fun vs σ H Q=>vs=[]/\Q σ H
def VF (t:TG) (u:Ry):Ry:=fun vs σ H Q=>∃ v r,vs=v :: r/\t v σ H fun σ' H'=>u r σ' H' Q
theorem bR:PGs X [] aaD:=by
 intro pins s σ H vs us Q I r h
 obtain ⟨e,h⟩:=h
 subst e
 cases r
 exact assignInOrder_nil ⟨σ,H,I,h⟩
theorem aG {e:Expr} {es:List Expr} {t:TG} {u:Ry} (h1:PG X e t) (h2:PGs X es u)
   (hs:(assignEach (e :: es) X.env).map (·.2)=assign e X.env :: (assignEach es X.env).map (·.2):=by rfl):PGs X (e :: es) (VF t u):=by
 intro pins s σ H vs us Q I r h
 obtain ⟨v,vr,e1,h⟩:=h
 subst e1
 cases r with
 | cons r rr =>
   rw [hs]
   refine assignInOrder_cons (eE (h1 pins s σ H _ _ _ I r h) fun _ s1 ⟨σ1,H1,I1,q1⟩=>?_)
   exact h2 pins s1 σ1 H1 _ _ Q I1 rr q1
def aaE (K:PySem.W.Frag) (n:Nat) (t:Ry):TG:=fun v σ H Q=>∃ a xs,v=.ref a/\bM K H a xs/\xs.length=n/\t xs σ H Q
theorem cT {es:List Expr} {k:Nat} {t:Ry} {n:Nat} (hc:X.calm=true) (h:PGs X es t)
   (hn:(assignEach es X.env).length=n:=by rfl) (hst:(assignEach es X.env).findIdx? (·.1)=none:=by rfl):PG X (.Tuple es k pos) (aaE X.K n t):=by
 intro pins s σ H v u Q I r hw
 obtain ⟨a,xs,e1,hq,hl,hw⟩:=hw
 subst e1
 cases r
 obtain ⟨its,rv,ht,hz⟩:=I.tuple hq
 refine assign_Tuple_tuple (I.ok.hd hc) ht (by simp [hn,<- hl,rv.length]) hst fun h' hx=>?_
 have I1:Inv X pins σ H { s with heap:=h' }:=I.kept (t':=s.toks) fun b o e=>hx b o (Nat.ne_of_lt (Heap.lt_size e)) e
 exact h pins _ σ H xs _ Q I1 (by simpa using rv) hw
def aej (to ti:TE) (t:WY):TG:=fun v σ H Q=>to σ H fun o H1=>ti σ H1 fun i H2=>t o i v H2 fun H3=>Q σ H3
theorem W6 {o i:Expr} {to ti:TE} {t:WY} (ho:PE X o to) (hi:PE X i ti) (hs:W0 X t)
   (ha:∀ v,assign (.Subscript o i pos) X.env v=(do
     let ov <- holding [v] (eval o X.env)
     let iv <- holding [v,ov] (eval i X.env)
     standAt pos
     holding [v,ov,iv] (setItem ov iv v)
     release [v,ov,iv] []):=by intro _; rfl):PG X (.Subscript o i pos) (aej to ti t):=by
 intro pins s σ H v u Q I r h
 rw [ha]
 refine wpAny_bind (wpAny_holding (eE (ho pins s σ H _ I h) fun ov s1 ⟨x,H1,I1,r1,q1⟩=>?_))
 refine wpAny_bind (wpAny_holding (eE (hi pins s1 σ H1 _ I1 q1) fun iv s2 ⟨y,H2,I2,r2,q2⟩=>?_))
 refine wpAny_bind (wpAny_standAt (wpAny_bind (wpAny_holding (eE (hs pins s2 σ H2 x y v ov iv u _ I2 r1 r2 r q2) fun _ s3 ⟨H3,I3,q3⟩=>?_))))
 exact wpAny_release ⟨σ,H3,I3,q3⟩
def nJ (te:TE) (g:TG):TS:=fun D σ H=>te σ H fun x H1=>g x σ H1 D.nx
theorem kY {tg e:Expr} {te:TE} {g:TG} (he:PE X e te) (hg:PG X tg g) (hs:swapsWithSole [tg] e pos.line X.env=pure false:=by rfl) (hw:swappedStores [tg] e X.env=pure none:=by rfl)
   (h1:(assignEach [tg] X.env).map (·.2)=[assign tg X.env]:=by rfl):PS X (.Assign [tg] e pos) (nJ te g):=by
 intro pins s σ H D I h
 refine wpAny_Assign_stores (eE (he pins s σ H _ I h) fun v s1 ⟨x,H1,I1,r1,q1⟩=>?_) hs hw
 rw [h1]
 exact eE (hg pins s1 σ H1 x v _ I1 r1 q1) fun _ s2 q=>q
theorem aV {i:Nat} {x:Str} {e:Expr} {te:TE} {pos':Pos} (hN:X.N.Nodup) (hi:X.N[i]?=some x) (hx:Loc X.env.scope x) (he:PE X e te) (hs:swapsWith e (some (.Name x pos')) pos.line X.env=pure false:=by rfl) (hf:X.fn x=true∨X.env.scope.names.lookup x=some .local:=by first | exact .inl rfl | exact .inr rfl | assumption) :
   PS X (.Assign [.Name x pos'] e pos) (nJ te (jE i)):=by
 intro pins s σ H D I h
 refine wpAny_Assign_Name (eE (he pins s σ H _ I h) fun v s1 ⟨y,H1,I1,r1,q1⟩=>?_) hs
 exact Ax I1 hN hi hx r1 (fun s2 I2=>⟨_,H1,I2,q1⟩) hf
end
section
variable {X:Cx} {pos:Pos}
end
structure It where
 go:Nat->Hp->Prop
 MP:Nat->Hp->V->Hp->Prop
 stop:Nat->Hp->Prop
def mD (X:Cx) (pins:List (Addr × Obj)) (H:Hp) (b:Addr):Prop :=
 H b=none/\b≠X.env.locals/\b ∉ X.fs/\(b∈X.ex∨X.s₀.heap.objs.size<=b)/\(∀ x c,X.env.cells.lookup x=some c->c≠b)/\∀ p∈X.pn++pins,p.1≠b
theorem Inv.Ba {X:Cx} {pins:List (Addr × Obj)} {σ:St} {H H':Hp} {s:Shared} {b:Addr} (I:Inv X pins σ H s) (hb:s.heap.objs.size<=b) (hn:H' b=none):mD X pins H' b:=by
 refine ⟨hn,Nat.ne_of_gt (Nat.lt_of_lt_of_le I.lt hb),I.aed hb,.inr (Nat.le_trans I.sz hb),fun x c e z=>?_,fun p hp z=>?_⟩
 . obtain ⟨v,q⟩:=I.cell x c e
   exact absurd (Nat.lt_of_lt_of_le q.lt (by rw [z]; exact hb)) (Nat.lt_irrefl _)
 . exact absurd (Nat.lt_of_lt_of_le (Heap.lt_size (I.pin p hp).1) (by rw [z]; exact hb)) (Nat.lt_irrefl _)
structure Turn (P:Program) (w:World) (K:PySem.W.Frag) (tg:Expr) (J:It) (fp:List Addr) (it:Addr) (tn:Nat->Heap->Prop):Prop where
 mem:it∈fp
 obj:∀ i h,tn i h->∀ b∈fp,∃ o,h.get? b=some o/\∀ v,o.data≠.cell v
 keep:∀ i h h',tn i h->(∀ b∈fp,∀ o,h.get? b=some o->h'.get? b=some o)->tn i h'
 item:∀ (X:Cx),X.prog=P->X.w=w->X.K=K->X.calm=true->∀ (i:Nat) (pins:List (Addr × Obj)) (s:Shared) (σ:St) (H:Hp) (E:Value->Shared->Prop),Inv X pins σ H s->(∀ b∈fp,mD X pins H b)->tn i s.heap->J.go i H ->
   wpAny (model P w) X.A (pyNext (.ref it)) (fun r s1=>∃ u,r=some u /\
     wpAny (model P w) X.A (letOwnedTupleGo tg (.ref it) u) (fun _ s2=>∃ x H',Inv X pins σ H' s2/\RelV x u/\J.MP i H x H'/\tn (i+1) s2.heap/\∀ b∈fp,H' b=none) E s1) E s
 done:∀ (X:Cx),X.prog=P->X.w=w->X.K=K->X.calm=true->∀ (i:Nat) (pins:List (Addr × Obj)) (s:Shared) (σ:St) (H:Hp) (E:Value->Shared->Prop),Inv X pins σ H s->(∀ b∈fp,mD X pins H b)->tn i s.heap->J.stop i H ->
   wpAny (model P w) X.A (pyNext (.ref it)) (fun r s1=>r=none/\Inv X pins σ H s1) E s
 self:∀ (A:Around) (i:Nat) (s:Shared) (Q:Value->Shared->Prop) (E:Value->Shared->Prop),tn i s.heap->Q (.ref it) s->wpAny (model P w) A (pyIter (.ref it)) Q E s
abbrev TI:=St->Hp->(It->Hp->Prop)->Prop
def PIE (X:Cx) (pins:List (Addr × Obj)) (σ:St) (tg:Expr) (R:It->Hp->Prop) (itv:Value) (s2:Shared):Prop :=
 ∃ (it:Addr) (fp:List Addr) (tn:Nat->Heap->Prop) (J:It) (H':Hp),itv=.ref it/\Inv X pins σ H' s2/\Turn X.prog X.w X.K tg J fp it tn/\tn 0 s2.heap/\(∀ b∈fp,mD X pins H' b)/\R J H'
def PI (X:Cx) (tg iter:Expr) (wi:TI):Prop :=
 ∀ (pins:List (Addr × Obj)) (s:Shared) (σ:St) (H:Hp) (R:It->Hp->Prop),Inv X pins σ H s->wi σ H R ->
   wpAny (model X.prog X.w) X.A (eval iter X.env) (fun v s1=>wpAny (model X.prog X.w) X.A (pyIter v) (PIE X pins σ tg R) X.xe s1) X.xe s
theorem uO {M:Model} {A:Around} {E:Value->Shared->Prop} {s:Shared} {tg:Expr} {it:Addr} {u:Value} {o:Obj} {n:String} {vs:Array Value} {Q:Unit->Shared->Prop} (ho:s.heap.get? it=some o) (hc:o.cls=.type n) (hd:o.data=.fields vs)
   (hn:["enumerate","zip","dict_itemiterator","dict_reverseitemiterator","odict_iterator","itertools.zip_longest","itertools.pairwise"].contains n=false) (hQ:Q () s):wpAny M A (letOwnedTupleGo tg (.ref it) u) Q E s:=by
 unfold letOwnedTupleGo
 cases tg <;> first
   | exact wpAny_pure hQ
   | (cases u <;> first
       | exact wpAny_pure hQ
       | (refine wpAny_bind (wpAny_load ho ?_)
          rw [hc,hd]
          show wpAny M A (if (["enumerate","zip","dict_itemiterator","dict_reverseitemiterator","odict_iterator","itertools.zip_longest","itertools.pairwise"].contains n && vs[0]? == some (rawInt _))=true then _ else _) Q E s
          rw [if_neg (by intro h; rw [hn,Bool.false_and] at h; cases h)]
          exact wpAny_pure hQ))
def M4 (K:PySem.W.Frag) (a:Addr):It :=
 ⟨fun i H=>∃ xs x,dg K H a xs/\xs[i]?=some x,fun i H x H'=>H'=H/\∀ xs,dg K H a xs->xs[i]?=some x,fun i H=>∃ xs,dg K H a xs/\xs.length<=i⟩
def RP (K:PySem.W.Frag) (a:Addr):It :=
 ⟨fun i H=>∃ xs x,bM K H a xs/\xs[i]?=some x,fun i H x H'=>H'=H/\∀ xs,bM K H a xs->xs[i]?=some x,fun i H=>∃ xs,bM K H a xs/\xs.length<=i⟩
def W7 (lo:Int) (n:Nat):It:=⟨fun i _=>i<n,fun i H x H'=>H'=H/\x=.int (lo+i),fun i _=>n<=i⟩
theorem JC {P:Program} {w:World} {K:PySem.W.Frag} {tg:Expr} (a it:Addr):Turn P w K tg (M4 K a) [it] it (fun i h=>h.IsListIter it a i) where
 mem:=by simp
 obj:=fun i h st b hb=>by
   have e:b=it:=by simpa using hb
   subst e
   obtain ⟨o,e,c,d⟩:=st
   exact ⟨o,e,fun v z=>by rw [d] at z; cases z⟩
 keep:=fun i h h' st k=>st.at fun o e=>k it (by simp) o e
 item:=by
   intro X hP hw hK hc i pins s σ H E I hf st hg
   subst hP hw hK
   obtain ⟨xs,x,hq,hx⟩:=hg
   obtain ⟨its,rv,p,hz⟩:=I.list hq
   obtain ⟨u,hu,ru⟩:=rv.get hx
   obtain ⟨f0,f1,f2,f3,f4,f5⟩:=hf it (by simp)
   refine wpAny_pyNext_list_item st p.isList (x:=u) (by simpa using hu) fun h' st' sb=>?_
   have I1:Inv X pins σ H { s with heap:=h' }:=I.turned (t':=s.toks) (fun b o hb e=>(sb.2 b hb).trans e) f0 f1 f3 f4 f5
   obtain ⟨o,e,c,d⟩:=id st'
   exact ⟨u,rfl,uO (s:={ s with heap:=h' }) e c d (by decide) ⟨x,H,I1,ru,⟨rfl,fun ys hy=>by rw [I.MN hy hq]; exact hx⟩,st',fun b hb=>(hf b hb).1⟩⟩
 done:=by
   intro X hP hw hK hc i pins s σ H E I hf st hg
   subst hP hw hK
   obtain ⟨xs,hq,hx⟩:=hg
   obtain ⟨its,rv,p,hz⟩:=I.list hq
   obtain ⟨f0,f1,f2,f3,f4,f5⟩:=hf it (by simp)
   have hl:=rv.length
   exact wpAny_pyNext_list_end (I.ok.hd hc) st p.isList (by simp; omega) fun h' eb=>⟨rfl,I.turned (t':=s.toks) (fun b o hb e=>eb b o hb e) f0 f1 f3 f4 f5⟩
 self:=fun _ _ _ _ _ st h=>wpAny_pyIter_listiter st h
theorem Ed {P:Program} {w:World} {K:PySem.W.Frag} {tg:Expr} (a it:Addr):Turn P w K tg (RP K a) [it] it (fun i h=>h.IsTupleIter it a i) where
 mem:=by simp
 obj:=fun i h st b hb=>by
   have e:b=it:=by simpa using hb
   subst e
   obtain ⟨o,e,c,d⟩:=st
   exact ⟨o,e,fun v z=>by rw [d] at z; cases z⟩
 keep:=fun i h h' st k=>st.at fun o e=>k it (by simp) o e
 item:=by
   intro X hP hw hK hc i pins s σ H E I hf st hg
   subst hP hw hK
   obtain ⟨xs,x,hq,hx⟩:=hg
   obtain ⟨its,rv,p,hz⟩:=I.tuple hq
   obtain ⟨u,hu,ru⟩:=rv.get hx
   obtain ⟨f0,f1,f2,f3,f4,f5⟩:=hf it (by simp)
   refine wpAny_pyNext_tuple_item st (show s.heap.IsTuple a its.toArray from p) (x:=u) (by simpa using hu) fun h' st' sb=>?_
   have I1:Inv X pins σ H { s with heap:=h' }:=I.turned (t':=s.toks) (fun b o hb e=>(sb.2 b hb).trans e) f0 f1 f3 f4 f5
   obtain ⟨o,e,c,d⟩:=id st'
   exact ⟨u,rfl,uO (s:={ s with heap:=h' }) e c d (by decide) ⟨x,H,I1,ru,⟨rfl,fun ys hy=>by rw [I.JB hy hq]; exact hx⟩,st',fun b hb=>(hf b hb).1⟩⟩
 done:=by
   intro X hP hw hK hc i pins s σ H E I hf st hg
   subst hP hw hK
   obtain ⟨xs,hq,hx⟩:=hg
   obtain ⟨its,rv,p,hz⟩:=I.tuple hq
   obtain ⟨f0,f1,f2,f3,f4,f5⟩:=hf it (by simp)
   have hl:=rv.length
   exact wpAny_pyNext_tuple_end (I.ok.hd hc) st (show s.heap.IsTuple a its.toArray from p) (by simp; omega) fun h' eb=>⟨rfl,I.turned (t':=s.toks) (fun b o hb e=>eb b o hb e) f0 f1 f3 f4 f5⟩
 self:=fun _ _ _ _ _ st h=>wpAny_pyIter_tupleiter st h
theorem Ef {P:Program} {w:World} {K:PySem.W.Frag} {tg:Expr} (it:Addr) (lo:Int) (n:Nat):Turn P w K tg (W7 lo n) [it] it (fun i h=>IsRangeIter h it (lo+(i:Nat) * 1) ((n:Int)-(i:Nat)) 1) where
 mem:=by simp
 obj:=fun i h st b hb=>by
   have e:b=it:=by simpa using hb
   subst e
   exact ⟨_,st,fun v z=>by
     have z':Data.fields _=Data.cell v:=z
     cases z'⟩
 keep:=fun i h h' st k=>k it (by simp) _ st
 item:=by
   intro X hP hw hK hc i pins s σ H E I hf st hg
   subst hP hw hK
   obtain ⟨f0,f1,f2,f3,f4,f5⟩:=hf it (by simp)
   have W:=Walks.range (prog:=X.prog) (w:=X.w) (I.ok.hd hc) it lo 1 n
   refine W.item i s _ _ hg st fun v h' tk hv st' kk=>?_
   obtain ⟨t,rfl⟩:=hv
   have I1:Inv X pins σ H { s with heap:=h',toks:=tk }:=I.turned (fun b o hb e=>kk b o (by simpa using hb) e) f0 f1 f3 f4 f5
   refine ⟨_,rfl,uO (s:={ s with heap:=h',toks:=tk }) (n:="range_iterator") st' rfl rfl (by decide) ⟨.int (lo+i),H,I1,⟨t,?_⟩,⟨rfl,rfl⟩,st',fun b hb=>(hf b hb).1⟩⟩
   rw [Int.mul_one]
 done:=by
   intro X hP hw hK hc i pins s σ H E I hf st hg
   subst hP hw hK
   obtain ⟨f0,f1,f2,f3,f4,f5⟩:=hf it (by simp)
   exact wpAny_pyNext_range_end (I.ok.hd hc) st (by have:n<=i:=hg; omega) fun h' eb=>⟨rfl,I.turned (t':=s.toks) (fun b o hb e=>eb b o hb e) f0 f1 f3 f4 f5⟩
 self:=fun _ _ _ _ _ st h=>wpAny_pyIter_rangeiter st h
end L2
namespace L2
open PySem PySem.Spec PyProof.Rows
section
variable {X:Cx} {tg:Expr}
def sX (K:PySem.W.Frag) (tl:TE):TI:=fun σ H R=>tl σ H fun x H1=>∃ a,x=.ref a/\(∃ xs,dg K H1 a xs)/\R (M4 K a) H1
def aaF (K:PySem.W.Frag) (tl:TE):TI:=fun σ H R=>tl σ H fun x H1=>∃ a,x=.ref a/\(∃ xs,bM K H1 a xs)/\R (RP K a) H1
theorem fO {l:Expr} {tl:TE} (hl:PE X l tl):PI X tg l (sX X.K tl):=by
 intro pins s σ H R I h
 refine eE (hl pins s σ H _ I h) fun v s1 ⟨x,H1,I1,r1,q1⟩=>?_
 obtain ⟨a,e,⟨xs,hq⟩,q⟩:=q1
 subst e
 cases r1
 obtain ⟨its,rv,p,hz⟩:=I1.list hq
 refine wpAny_pyIter_list p.isList ?_
 refine ⟨s1.heap.objs.size,[s1.heap.objs.size],_,_,H1,rfl,I1.kept (t':=s1.toks) fun b o e=>Heap.get?_push_of_some _ e,JC a _,⟨_,Heap.get?_push_size _ rfl,rfl,rfl⟩,fun b hb=>?_,q⟩
 have e:b=s1.heap.objs.size:=by simpa using hb
 subst e
 exact I1.Ba (Nat.le_refl _) (I1.hok.fresh (Nat.le_refl _))
theorem cX {l:Expr} {tl:TE} (hl:PE X l tl):PI X tg l (aaF X.K tl):=by
 intro pins s σ H R I h
 refine eE (hl pins s σ H _ I h) fun v s1 ⟨x,H1,I1,r1,q1⟩=>?_
 obtain ⟨a,e,⟨xs,hq⟩,q⟩:=q1
 subst e
 cases r1
 obtain ⟨its,rv,p,hz⟩:=I1.tuple hq
 refine wpAny_pyIter_tuple (show s1.heap.IsTuple a its.toArray from p) ?_
 refine ⟨s1.heap.objs.size,[s1.heap.objs.size],_,_,H1,rfl,I1.kept (t':=s1.toks) fun b o e=>Heap.get?_push_of_some _ e,Ed a _,⟨_,Heap.get?_push_size _ rfl,rfl,rfl⟩,fun b hb=>?_,q⟩
 have e:b=s1.heap.objs.size:=by simpa using hb
 subst e
 exact I1.Ba (Nat.le_refl _) (I1.hok.fresh (Nat.le_refl _))
theorem M5 {pins:List (Addr × Obj)} {σ:St} {H:Hp} {s:Shared} {R:It->Hp->Prop} {E:Value->Shared->Prop} {lo hi:Int} {t u v:Tok} {tk:Nat} (I:Inv X pins σ H s) (h1:-(2 ^ 62)<=lo) (h2:lo<2 ^ 62) (h3:-(2 ^ 62)<=hi) (h4:hi<2 ^ 62)
   (q:R (W7 lo (hi-lo).toNat) H):wpAny (model X.prog X.w) X.A (pyIter (.ref s.heap.objs.size)) (PIE X pins σ tg R) E { s with heap:=s.heap.push { cls:=.type "range",data:=.fields #[.int lo t,.int hi u,.int 1 v] },toks:=tk }:=by
 refine wpAny_pyIter_range (IsRange.new ..) (small_one h1 h2 h3 h4) ?_
 have I1:Inv X pins σ H { s with heap:=s.heap.push { cls:=.type "range",data:=.fields #[.int lo t,.int hi u,.int 1 v] },toks:=tk }:=I.kept fun b o e=>Heap.get?_push_of_some _ e
 refine ⟨(s.heap.push { cls:=.type "range",data:=.fields #[.int lo t,.int hi u,.int 1 v] }).objs.size,[(s.heap.push { cls:=.type "range",data:=.fields #[.int lo t,.int hi u,.int 1 v] }).objs.size],_,_,H,rfl,
   I1.kept (t':=tk) fun b o e=>Heap.get?_push_of_some _ e,Ef _ lo (hi-lo).toNat,?_,fun b hb=>?_,q⟩
 . have e1:lo+((0:Nat):Int) * 1=lo:=by simp
   have e2:(((hi-lo).toNat:Nat):Int)-((0:Nat):Int)=Builtin.Range.rangeSize lo hi 1:=by rw [rangeSize_one]; split <;> omega
   show IsRangeIter _ _ (lo+((0:Nat):Int) * 1) ((((hi-lo).toNat:Nat):Int)-((0:Nat):Int)) 1
   rw [e1,e2]
   exact Heap.get?_push_size _ rfl
 . have e:b=(s.heap.push { cls:=.type "range",data:=.fields #[.int lo t,.int hi u,.int 1 v] }).objs.size:=by simpa using hb
   subst e
   exact I1.Ba (Nat.le_refl _) (I1.hok.fresh (Nat.le_refl _))
def aaG (ta:TA):TI:=fun σ H R=>ta σ H fun vs H1=>∃ j:Int,vs=[.int j]/\-(2 ^ 62)<=j/\j<2 ^ 62/\R (W7 0 j.toNat) H1
theorem fP {a:Expr} {ta:TA} {p pos:Pos} (hg:Gl X "range") (hm:X.mg "range" = none) (ha:PA X [a] ta) (hs:starEach [a] X.env=[(false,eval a X.env)]:=by rfl):PI X tg (.Call (.Name "range" p) [a] [] pos) (aaG ta):=by
 intro pins s σ H R I h
 refine Call_ (pZ I hg hm boot_range (PyProof.Rows.callWith_type1 (eE (ha pos pins s σ H _ I h) fun us s1 ⟨vs,H1,I1,r1,q1⟩=>?_) hs rfl))
 obtain ⟨j,e,q1,q2,q⟩:=q1
 subst e
 cases r1 with
 | cons r rr =>
   cases rr
   obtain ⟨t,rfl⟩:=r
   exact call_range_1 (M5 I1 (by omega) (by omega) q1 q2 (by simpa using q))
def Bb (wi:TI) (g:TG) (tb:TS):TS:=fun D σ H=>wi σ H fun J H1=>∃ W:Nat->Nat->St->Hp->Prop,(∃ m,W 0 m σ H1)/\∀ i m σ H,W i m σ H ->
 (J.stop i H/\D.nx σ H)∨(J.go i H/\∃ N:St->Hp->Prop,(∀ σ' H',N σ' H'->∃ m',m'<m/\W (i+1) m' σ' H')/\∀ x H',J.MP i H x H'->g x σ H' fun σ2 H2=>tb { D with nx:=N,ct:=N,bk:=D.nx } σ2 H2)
def rH (fp:List Addr) (h:Heap):List (Addr × Obj):=fp.filterMap fun b=>(h.get? b).map fun o=>(b,o)
theorem jg {fp:List Addr} {h:Heap} {b:Addr} {o:Obj} (hb:b∈fp) (e:h.get? b=some o):(b,o)∈rH fp h:=List.mem_filterMap.mpr ⟨b,hb,by rw [e]; rfl⟩
theorem JD {fp:List Addr} {h:Heap} {p:Addr × Obj} (hp:p∈rH fp h):p.1∈fp/\h.get? p.1=some p.2:=by
 obtain ⟨b,hb,e⟩:=List.mem_filterMap.mp hp
 cases q:h.get? b with
 | none=>rw [q] at e; cases e
 | some o =>
   rw [q] at e
   have e':(b,o)=p:=Option.some.inj e
   subst e'
   exact ⟨hb,q⟩
theorem Inv.pinned {pins:List (Addr × Obj)} {σ:St} {H:Hp} {s:Shared} {fp:List Addr} (I:Inv X pins σ H s) (hf:∀ b∈fp,mD X pins H b) (ho:∀ b∈fp,∃ o,s.heap.get? b=some o/\∀ v,o.data≠.cell v):Inv X (pins++rH fp s.heap) σ H s :=
 I.Hl fun p hp=>(List.mem_append.mp hp).elim (fun z=>I.pin p (List.mem_append_right _ z)) fun z=>by
   obtain ⟨hb,e⟩:=JD z
   obtain ⟨f0,f1,f2,_⟩:=hf p.1 hb
   obtain ⟨o,e',d⟩:=ho p.1 hb
   rw [e] at e'; cases e'
   exact ⟨e,f0,f1,f2,d⟩
theorem Inv.nM {pins pl:List (Addr × Obj)} {σ:St} {H:Hp} {s:Shared} (I:Inv X (pins++pl) σ H s):Inv X pins σ H s:=I.Hl fun p hp=>I.pin p (List.mem_append_right _ (List.mem_append_left _ hp))
theorem cY {iter:Expr} {body:List Stmt} {wi:TI} {g:TG} {tb:TS} {pos:Pos} (hp:PassesOwn (model X.prog X.w) X.A X.env X.xe) (hc:X.calm=true) (hi:PI X tg iter wi) (hg:PG X tg g) (hb:Jy X body tb)
   (hs:∀ x,foldedSetIterable iter X.env x=pure x:=by intro _; rfl):PS X (.For tg iter body [] pos) (Bb wi g tb):=by
 intro pins s σ H D I h
 refine wpAny_For (eE (hi pins s σ H _ I h) fun v s1 h1=>eE h1 fun itv s2 h2=>?_) hs
 obtain ⟨it,fp,tn,J,H2,e,I2,T,st2,f2,W,⟨m0,w0⟩,turn⟩:=h2
 subst e
 -- what stays true of the iterator's objects through the loop
 have stat:∀ {H':Hp},(∀ b∈fp,H' b=none)->∀ b∈fp,mD X pins H' b:=fun hn b hb=>⟨hn b hb,(f2 b hb).2⟩
 refine codeAny_forLoop_any (fun n s'=>∃ i σ' H',Inv X pins σ' H' s'/\tn i s'.heap/\(∀ b∈fp,H' b=none)/\W i n σ' H') ?_ m0 ⟨0,σ,H2,I2,st2,fun b hb=>(f2 b hb).1,w0⟩
 rintro n s3 ⟨i,σ3,H3,I3,st3,W8,w3⟩
 rcases turn i n σ3 H3 w3 with ⟨stop,qn⟩ | ⟨go,N,hN,step⟩
 . refine wpAny_passesOwn hp (eE (T.done X rfl rfl rfl hc i pins s3 σ3 H3 X.xe I3 (stat W8) st3 stop) fun r s4 ⟨hr,I4⟩=>?_)
   subst hr
   exact wpAny_execs_nil ⟨σ3,H3,I4,qn⟩
 . refine wpAny_passesOwn hp (eE (T.item X rfl rfl rfl hc i pins s3 σ3 H3 X.xe I3 (stat W8) st3 go) fun r s4 ⟨u,hr,h4⟩=>?_)
   subst hr
   refine wpAny_passesOwn hp (eE h4 fun _ s5 ⟨x,H5,I5,r5,y5,RQ,fr5⟩=>?_)
   have I5':=I5.pinned (stat fr5) (T.obj _ _ RQ)
   refine wpAny_passesOwn hp (eE (hg _ s5 σ3 H5 x u _ I5' r5 (step x H5 y5)) fun _ s6 ⟨σ6,H6,I6,q6⟩=>?_)
   refine wpAny_passesOwn hp (eE (hb _ s6 σ6 H6 _ I6 q6) fun f s7 q7=>?_)
   have again:∀ {σ7:St} {H7:Hp},Inv X (pins++rH fp s5.heap) σ7 H7 s7->N σ7 H7->∃ m,m<n/\∃ i σ' H',Inv X pins σ' H' s7/\tn i s7.heap/\(∀ b∈fp,H' b=none)/\W i m σ' H':=fun {σ7 H7} I7 n7=>by
     obtain ⟨m',hm,w7⟩:=hN σ7 H7 n7
     refine ⟨m',hm,i+1,σ7,H7,I7.nM,T.keep _ _ _ RQ fun b hb o e=>(I7.pin (b,o) (List.mem_append_right _ (List.mem_append_right _ (jg hb e)))).1,fun b hb=>?_,w7⟩
     obtain ⟨o,e,d⟩:=T.obj _ _ RQ b hb
     exact (I7.pin (b,o) (List.mem_append_right _ (List.mem_append_right _ (jg hb e)))).2.1
   cases f with
   | next=>obtain ⟨σ7,H7,I7,n7⟩:=q7; exact again I7 n7
   | cont=>obtain ⟨σ7,H7,I7,n7⟩:=q7; exact again I7 n7
   | brk=>obtain ⟨σ7,H7,I7,q7⟩:=q7; exact ⟨σ7,H7,I7.nM,q7⟩
   | ret v=>obtain ⟨x7,σ7,H7,I7,r7,q7⟩:=q7; exact ⟨x7,σ7,H7,I7.nM,r7,q7⟩
end
theorem jQ {K:PySem.W.Frag} {a:Addr} {xs:List V} {g:TG} {tb:TS} {D:Ends} {σ:St} {H:Hp} (Pv:Nat->St->Hp->Prop) (h0:Pv 0 σ H) (hl:∀ i σ H,i<=xs.length->Pv i σ H->dg K H a xs)
   (hs:∀ i x σ H,xs[i]?=some x->Pv i σ H->g x σ H fun σ2 H2=>tb { D with nx:=Pv (i+1),ct:=Pv (i+1),bk:=D.nx } σ2 H2) (hd:∀ σ H,Pv xs.length σ H->D.nx σ H) :
   ∃ W:Nat->Nat->St->Hp->Prop,(∃ m,W 0 m σ H)/\∀ i m σ H,W i m σ H ->
     ((M4 K a).stop i H/\D.nx σ H)∨((M4 K a).go i H/\∃ N:St->Hp->Prop,(∀ σ' H',N σ' H'->∃ m',m'<m/\W (i+1) m' σ' H')/\∀ x H',(M4 K a).MP i H x H'->g x σ H' fun σ2 H2=>tb { D with nx:=N,ct:=N,bk:=D.nx } σ2 H2):=by
 refine ⟨fun i m σ H=>m=xs.length-i/\i<=xs.length/\Pv i σ H,⟨xs.length,by simp,Nat.zero_le _,h0⟩,?_⟩
 rintro i m σ H ⟨rfl,hi,p⟩
 have q:=hl i σ H hi p
 by_cases hlt:i<xs.length
 . refine .inr ⟨⟨xs,xs[i],q,by simp [hlt]⟩,Pv (i+1),fun σ' H' p'=>⟨xs.length-(i+1),by omega,rfl,hlt,p'⟩,fun x H' y=>?_⟩
   obtain ⟨e,y⟩:=y
   subst e
   exact hs i x σ _ (y xs q) p
 . have e:i=xs.length:=by omega
   subst e
   exact .inl ⟨⟨xs,q,Nat.le_refl _⟩,hd σ H p⟩
theorem gP {K:PySem.W.Frag} {a:Addr} {xs:List V} {g:TG} {tb:TS} {D:Ends} {σ:St} {H:Hp} (Pv:Nat->St->Hp->Prop) (h0:Pv 0 σ H) (hl:∀ i σ H,i<=xs.length->Pv i σ H->bM K H a xs)
   (hs:∀ i x σ H,xs[i]?=some x->Pv i σ H->g x σ H fun σ2 H2=>tb { D with nx:=Pv (i+1),ct:=Pv (i+1),bk:=D.nx } σ2 H2) (hd:∀ σ H,Pv xs.length σ H->D.nx σ H) :
   ∃ W:Nat->Nat->St->Hp->Prop,(∃ m,W 0 m σ H)/\∀ i m σ H,W i m σ H ->
     ((RP K a).stop i H/\D.nx σ H)∨((RP K a).go i H/\∃ N:St->Hp->Prop,(∀ σ' H',N σ' H'->∃ m',m'<m/\W (i+1) m' σ' H')/\∀ x H',(RP K a).MP i H x H'->g x σ H' fun σ2 H2=>tb { D with nx:=N,ct:=N,bk:=D.nx } σ2 H2):=by
 refine ⟨fun i m σ H=>m=xs.length-i/\i<=xs.length/\Pv i σ H,⟨xs.length,by simp,Nat.zero_le _,h0⟩,?_⟩
 rintro i m σ H ⟨rfl,hi,p⟩
 have q:=hl i σ H hi p
 by_cases hlt:i<xs.length
 . refine .inr ⟨⟨xs,xs[i],q,by simp [hlt]⟩,Pv (i+1),fun σ' H' p'=>⟨xs.length-(i+1),by omega,rfl,hlt,p'⟩,fun x H' y=>?_⟩
   obtain ⟨e,y⟩:=y
   subst e
   exact hs i x σ _ (y xs q) p
 . have e:i=xs.length:=by omega
   subst e
   exact .inl ⟨⟨xs,q,Nat.le_refl _⟩,hd σ H p⟩
theorem iz {lo:Int} {n:Nat} {g:TG} {tb:TS} {D:Ends} {σ:St} {H:Hp} (Pv:Nat->St->Hp->Prop) (h0:Pv 0 σ H)
   (hs:∀ i σ H,i<n->Pv i σ H->g (.int (lo+i)) σ H fun σ2 H2=>tb { D with nx:=Pv (i+1),ct:=Pv (i+1),bk:=D.nx } σ2 H2) (hd:∀ σ H,Pv n σ H->D.nx σ H) :
   ∃ W:Nat->Nat->St->Hp->Prop,(∃ m,W 0 m σ H)/\∀ i m σ H,W i m σ H ->
     ((W7 lo n).stop i H/\D.nx σ H)∨((W7 lo n).go i H/\∃ N:St->Hp->Prop,(∀ σ' H',N σ' H'->∃ m',m'<m/\W (i+1) m' σ' H')/\∀ x H',(W7 lo n).MP i H x H'->g x σ H' fun σ2 H2=>tb { D with nx:=N,ct:=N,bk:=D.nx } σ2 H2):=by
 refine ⟨fun i m σ H=>m=n-i/\i<=n/\Pv i σ H,⟨n,by simp,Nat.zero_le _,h0⟩,?_⟩
 rintro i m σ H ⟨rfl,hi,p⟩
 by_cases hlt:i<n
 . refine .inr ⟨hlt,Pv (i+1),fun σ' H' p'=>⟨n-(i+1),by omega,rfl,hlt,p'⟩,fun x H' y=>?_⟩
   obtain ⟨e,y⟩:=y
   subst e y
   exact hs i σ _ hlt p
 . have e:i=n:=by omega
   subst e
   exact .inl ⟨Nat.le_refl _,hd σ H p⟩
end L2
namespace L2
open PySem PySem.Spec PyProof.Rows
abbrev R2:=V->V->Hp->VK->Prop
def iD (X:Cx) (f:Value->Value->Sem Value) (r:R2):Prop :=
 ∀ (pins:List (Addr × Obj)) (s:Shared) (σ:St) (H:Hp) (x y:V) (v u:Value) (Q:VK),Inv X pins σ H s->RelV x v->RelV y u->r x y H Q ->
   wpAny (model X.prog X.w) X.A (f v u) (EP X pins σ Q) X.xe s
def UnR (X:Cx) (f:Value->Sem Value) (r:V->Hp->VK->Prop):Prop :=
 ∀ (pins:List (Addr × Obj)) (s:Shared) (σ:St) (H:Hp) (x:V) (v:Value) (Q:VK),Inv X pins σ H s->RelV x v->r x H Q ->
   wpAny (model X.prog X.w) X.A (f v) (EP X pins σ Q) X.xe s
def gC (X:Cx) (f:Value) (r:List V->Hp->VK->Prop):Prop :=
 ∀ (pins:List (Addr × Obj)) (s:Shared) (σ:St) (H:Hp) (xs:List V) (us:List Value) (Q:VK),Inv X pins σ H s->Vals xs us->r xs H Q ->
   wpAny (model X.prog X.w) X.A (call f us) (EP X pins σ Q) X.xe s
def wQ (r:R2) (ta tb:TE):TE:=fun σ H Q=>ta σ H fun x H1=>tb σ H1 fun y H2=>r x y H2 Q
def tUn (r:V->Hp->VK->Prop) (ta:TE):TE:=fun σ H Q=>ta σ H fun x H1=>r x H1 Q
def rI (C:Int->Int->Prop) (g:Int->Int->V):R2:=fun x y H Q=>∃ i j,x=.int i/\y=.int j/\C i j/\Q (g i j) H
def Rz (g:Int->Int->V):R2:=fun x y H Q=>∃ i j,x=.int i/\y=.int j/\Q (g i j) H
section
variable {X:Cx} {a b c:Expr} {ta tb tc:TE} {pos:Pos}
theorem W9 (ha:PE X a ta) (hb:PE X b tb) {pins:List (Addr × Obj)} {s:Shared} {σ:St} {H:Hp} {R:V->V->Hp->Prop} (I:Inv X pins σ H s)
   (h:ta σ H fun x H1=>tb σ H1 fun y H2=>R x y H2) {Q:Value->Shared->Prop} {f:Value->Value->Sem Value}
   (hf:∀ v u s2 x y H2,Inv X pins σ H2 s2->RelV x v->RelV y u->R x y H2->wpAny (model X.prog X.w) X.A (f v u) Q X.xe s2) :
   wpAny (model X.prog X.w) X.A (eval a X.env) (fun v s₁=>wpAny (model X.prog X.w) X.A (eval b X.env) (fun u s₂=>wpAny (model X.prog X.w) X.A (f v u) Q X.xe s₂) X.xe s₁) X.xe s:=by
 refine eE (ha pins s σ H _ I h) fun v s1 ⟨x,H1,I1,r1,q1⟩=>?_
 refine eE (hb pins s1 σ H1 _ I1 q1) fun u s2 ⟨y,H2,I2,r2,q2⟩=>?_
 exact hf v u s2 x y H2 I2 r1 r2 q2
theorem aY {op:Operator} {r:R2} (ho:iD X (binaryOp op) r) (ha:PE X a ta) (hb:PE X b tb):PE X (.BinOp a op b pos) (wQ r ta tb):=by
 intro pins s σ H Q I h
 exact wpAny_BinOp (W9 ha hb I h fun v u s2 x y H2 I2 rx ry q=>ho pins s2 σ H2 x y v u Q I2 rx ry q)
theorem wR {op:UnaryOp} {r:V->Hp->VK->Prop} (ho:UnR X (unaryOp op) r) (ha:PE X a ta):PE X (.UnaryOp op a pos) (tUn r ta):=by
 intro pins s σ H Q I h
 exact UnaryOp_ (eE (ha pins s σ H _ I h) fun v s1 ⟨x,H1,I1,r1,q1⟩=>ho pins s1 σ H1 x v Q I1 r1 q1)
theorem Z5 {f:Value->Value->Sem Value} {C:Int->Int->Prop} {g:Int->Int->Int}
   (rule:∀ (i j:Int) (t u:Tok) (s:Shared) (Q:Value->Shared->Prop) (E:Value->Shared->Prop),C i j->Q (.int (g i j) s.toks) { s with toks:=s.toks+1 }->wpAny (model X.prog X.w) X.A (f (.int i t) (.int j u)) Q E s) :
   iD X f (rI C fun i j=>.int (g i j)):=by
 intro pins s σ H x y v u Q I rx ry h
 obtain ⟨i,j,rfl,rfl,hc,q⟩:=h
 obtain ⟨t,rfl⟩:=rx
 obtain ⟨t',rfl⟩:=ry
 exact rule i j t t' s _ _ hc ⟨.int (g i j),H,I.tok _,⟨_,rfl⟩,q⟩
theorem aaI {f:Value->Value->Sem Value} {g:Int->Int->Int}
   (rule:∀ (i j:Int) (t u:Tok) (s:Shared) (Q:Value->Shared->Prop) (E:Value->Shared->Prop),Q (.int (g i j) s.toks) { s with toks:=s.toks+1 }->wpAny (model X.prog X.w) X.A (f (.int i t) (.int j u)) Q E s) :
   iD X f (Rz fun i j=>.int (g i j)):=by
 intro pins s σ H x y v u Q I rx ry h
 obtain ⟨i,j,rfl,rfl,q⟩:=h
 obtain ⟨t,rfl⟩:=rx
 obtain ⟨t',rfl⟩:=ry
 exact rule i j t t' s _ _ ⟨.int (g i j),H,I.tok _,⟨_,rfl⟩,q⟩
theorem M6 {f:Value->Value->Sem Value} {g:Int->Int->Bool}
   (rule:∀ (i j:Int) (t u:Tok) (s:Shared) (Q:Value->Shared->Prop) (E:Value->Shared->Prop),Q (.bool (g i j)) s->wpAny (model X.prog X.w) X.A (f (.int i t) (.int j u)) Q E s) :
   iD X f (Rz fun i j=>.bl (g i j)):=by
 intro pins s σ H x y v u Q I rx ry h
 obtain ⟨i,j,rfl,rfl,q⟩:=h
 obtain ⟨t,rfl⟩:=rx
 obtain ⟨t',rfl⟩:=ry
 exact rule i j t t' s _ _ ⟨.bl (g i j),H,I,rfl,q⟩
def aaJ (i j:Int):Prop:=0<j/\j<1073741824
def aaK (i j:Int):Prop:=0<=j/\j<=1000000/\i.natAbs<2 ^ 64
def RT (i j:Int):Prop:=(-(2 ^ 64)<i/\i<2 ^ 64)∨(-(2 ^ 64)<j/\j<2 ^ 64)
theorem RT.ok {i j:Int} (h:RT i j):IntMulOk i j:=by
 rcases h with ⟨h1,h2⟩ | ⟨h1,h2⟩
 . exact .of_left (intBits_le_64 h1 h2)
 . exact .of_right (intBits_le_64 h1 h2)
theorem Xa:iD X (binaryOp .Add) (Rz fun i j=>.int (i+j)):=aaI fun _ _ _ _ _ _ _ q=>add_int q
theorem Xb:iD X (binaryOp .Sub) (Rz fun i j=>.int (i-j)):=aaI fun _ _ _ _ _ _ _ q=>sub_int q
theorem Xc:iD X (binaryOp .Mult) (rI RT fun i j=>.int (i * j)):=Z5 fun _ _ _ _ _ _ _ hc q=>mul_int q hc.ok
theorem ac5:iD X (binaryOp .FloorDiv) (rI aaJ fun i j=>.int (i / j)):=Z5 fun i j _ _ _ _ _ hc q=>by
 have h1:(0:Int)<j:=hc.1
 have h2:j<1073741824:=hc.2
 exact floordiv_int (by omega) (by rw [Int.fdiv_eq_ediv_of_nonneg i (by omega)]; exact q) (.inl (PyProof.noPylong_small (by omega)))
theorem Xd:iD X (binaryOp .Mod) (rI (fun _ j=>0<j) fun i j=>.int (i % j)):=Z5 fun i j _ _ _ _ _ hc q=>by
 have h1:(0:Int)<j:=hc
 exact mod_int' (by omega) (by rw [Int.fmod_eq_emod_of_nonneg i (by omega)]; exact q)
theorem Xe:iD X (binaryOp .Pow) (rI aaK fun i j=>.int (i ^ j.toNat)):=Z5 fun _ _ _ _ _ _ _ hc q=>pow_int_small hc.1 hc.2.1 hc.2.2 q
end
def aaL:V->V->Bool
 | .non,.non=>true | .non,.int _=>true | .int _,.non=>true | .non,.bl _=>true | .bl _,.non=>true | .non,.str _=>true | .str _,.non=>true
 | .int _,.int _=>true | .bl _,.bl _=>true | .str _,.str _=>true | .Mu _,.Mu _=>true
 | .int _,.str _=>true | .str _,.int _=>true | .bl _,.str _=>true | .str _,.bl _=>true
 | _,_=>false
def rEq:R2:=fun x y H Q=>aaL x y=true/\Q (.bl (decide (x=y))) H
def rNe:R2:=fun x y H Q=>aaL x y=true/\Q (.bl (!decide (x=y))) H
theorem Hs {i j:Int}:decide (V.int i=V.int j)=(i == j):=by
 rw [Bool.eq_iff_iff]
 simp
theorem M7 {i j:Bool}:decide (V.bl i=V.bl j)=(i == j):=by
 rw [Bool.eq_iff_iff]
 simp
theorem Ht {i j:Str}:decide (V.str i=V.str j)=(i == j):=by
 rw [Bool.eq_iff_iff]
 simp
theorem Hu {i j:Array UInt8}:decide (V.Mu i=V.Mu j)=(i.toList == j.toList):=by
 rw [Bool.eq_iff_iff]
 cases i
 cases j
 simp
section
variable {X:Cx} {a b c:Expr} {ta tb tc:TE} {pos:Pos}
theorem cO {pins:List (Addr × Obj)} {σ:St} {H:Hp} {s:Shared} {Q:VK} {k k':Bool} (I:Inv X pins σ H s) (q:Q (.bl k) H) (e:k=k'):EP X pins σ Q (.bool k') s:=by
 subst e
 exact ⟨.bl k,H,I,rfl,q⟩
theorem aaM:iD X (compareOp .Eq) rEq:=by
 intro pins s σ H x y v u Q I rx ry h
 obtain ⟨hs,q⟩:=h
 cases x with
 | non =>
   cases rx
   cases y with
   | non=>cases ry; exact PySem.EqNone.eq_none_none (cO I q (by simp))
   | bl j=>cases ry; exact PySem.EqNone.eq_none_bool (cO I q (by simp))
   | int j=>obtain ⟨t',rfl⟩:=ry; exact PySem.EqNone.eq_none_int (cO I q (by simp))
   | str j=>obtain ⟨t',rfl⟩:=ry; exact PySem.EqNone.eq_none_str (cO I q (by simp))
   | _=>exact absurd (show false=true from hs) Bool.false_ne_true
 | bl i =>
   cases rx
   cases y with
   | non=>cases ry; exact PySem.EqNone.eq_bool_none (cO I q (by simp))
   | bl j=>cases ry; exact eq_bool (cO I q M7)
   | str j=>obtain ⟨t',rfl⟩:=ry; exact PySem.EqMixed.eq_bool_str (cO I q (by simp))
   | _=>exact absurd (show false=true from hs) Bool.false_ne_true
 | int i =>
   obtain ⟨t,rfl⟩:=rx
   cases y with
   | non=>cases ry; exact PySem.EqNone.eq_int_none (cO I q (by simp))
   | int j=>obtain ⟨t',rfl⟩:=ry; exact eq_int (cO I q Hs)
   | str j=>obtain ⟨t',rfl⟩:=ry; exact PySem.EqMixed.eq_int_str (cO I q (by simp))
   | _=>exact absurd (show false=true from hs) Bool.false_ne_true
 | str i =>
   obtain ⟨t,rfl⟩:=rx
   cases y with
   | non=>cases ry; exact PySem.EqNone.eq_str_none (cO I q (by simp))
   | bl j=>cases ry; exact PySem.EqMixed.eq_str_bool (cO I q (by simp))
   | int j=>obtain ⟨t',rfl⟩:=ry; exact PySem.EqMixed.eq_str_int (cO I q (by simp))
   | str j=>obtain ⟨t',rfl⟩:=ry; exact eq_str (cO I q Ht)
   | _=>exact absurd (show false=true from hs) Bool.false_ne_true
 | Mu i =>
   obtain ⟨t,rfl⟩:=rx
   cases y with
   | Mu j=>obtain ⟨t',rfl⟩:=ry; exact PySem.W.eq_bytes (cO I q Hu)
   | _=>exact absurd (show false=true from hs) Bool.false_ne_true
 | _=>cases y <;> exact absurd (show false=true from hs) Bool.false_ne_true
theorem Hv:iD X (compareOp .NotEq) rNe:=by
 intro pins s σ H x y v u Q I rx ry h
 obtain ⟨hs,q⟩:=h
 cases x with
 | non =>
   cases rx
   cases y with
   | non=>cases ry; exact PySem.EqNone.ne_none_none (cO I q (by simp))
   | bl j=>cases ry; exact PySem.EqNone.ne_none_bool (cO I q (by simp))
   | int j=>obtain ⟨t',rfl⟩:=ry; exact PySem.EqNone.ne_none_int (cO I q (by simp))
   | str j=>obtain ⟨t',rfl⟩:=ry; exact PySem.EqNone.ne_none_str (cO I q (by simp))
   | _=>exact absurd (show false=true from hs) Bool.false_ne_true
 | bl i =>
   cases rx
   cases y with
   | non=>cases ry; exact PySem.EqNone.ne_bool_none (cO I q (by simp))
   | bl j=>cases ry; exact ne_bool (cO I q (congrArg not M7))
   | str j=>obtain ⟨t',rfl⟩:=ry; exact PySem.EqMixed.ne_bool_str (cO I q (by simp))
   | _=>exact absurd (show false=true from hs) Bool.false_ne_true
 | int i =>
   obtain ⟨t,rfl⟩:=rx
   cases y with
   | non=>cases ry; exact PySem.EqNone.ne_int_none (cO I q (by simp))
   | int j=>obtain ⟨t',rfl⟩:=ry; exact ne_int (cO I q (congrArg not Hs))
   | str j=>obtain ⟨t',rfl⟩:=ry; exact PySem.EqMixed.ne_int_str (cO I q (by simp))
   | _=>exact absurd (show false=true from hs) Bool.false_ne_true
 | str i =>
   obtain ⟨t,rfl⟩:=rx
   cases y with
   | non=>cases ry; exact PySem.EqNone.ne_str_none (cO I q (by simp))
   | bl j=>cases ry; exact PySem.EqMixed.ne_str_bool (cO I q (by simp))
   | int j=>obtain ⟨t',rfl⟩:=ry; exact PySem.EqMixed.ne_str_int (cO I q (by simp))
   | str j=>obtain ⟨t',rfl⟩:=ry; exact ne_str (cO I q (congrArg not Ht))
   | _=>exact absurd (show false=true from hs) Bool.false_ne_true
 | Mu i =>
   obtain ⟨t,rfl⟩:=rx
   cases y with
   | Mu j=>obtain ⟨t',rfl⟩:=ry; exact PySem.W.ne_bytes (cO I q (congrArg not Hu))
   | _=>exact absurd (show false=true from hs) Bool.false_ne_true
 | _=>cases y <;> exact absurd (show false=true from hs) Bool.false_ne_true
theorem aaN:iD X (compareOp .Lt) (Rz fun i j=>.bl (decide (i<j))):=M6 fun _ _ _ _ _ _ _ q=>lt_int q
theorem aaO:iD X (compareOp .LtE) (Rz fun i j=>.bl (decide (i<=j))):=M6 fun _ _ _ _ _ _ _ q=>le_int q
theorem aaP:iD X (compareOp .Gt) (Rz fun i j=>.bl (decide (j<i))):=M6 fun _ _ _ _ _ _ _ q=>gt_int q
theorem aaQ:iD X (compareOp .GtE) (Rz fun i j=>.bl (decide (j<=i))):=M6 fun _ _ _ _ _ _ _ q=>ge_int q
theorem bJ (b:Expr) {op:CmpOp} (h:op≠.In:=by decide) (h2:op≠.NotIn:=by decide):behindInMarks op b=false:=by
 have e1:(op == CmpOp.In)=false:=by cases op <;> first | rfl | exact absurd rfl h
 have e2:(op == CmpOp.NotIn)=false:=by cases op <;> first | rfl | exact absurd rfl h2
 cases b <;> simp [behindInMarks,e1,e2]
theorem jH {op:CmpOp} {r:R2} (ho:iD X (compareOp op) r) (ha:PE X a ta) (hb:PE X b tb) (hm:behindInMarks op b=false):PE X (.Compare a [op] [b] pos) (wQ r ta tb):=by
 intro pins s σ H Q I h
 exact wpAny_Compare1 (W9 ha hb I h fun v u s2 x y H2 I2 rx ry q=>ho pins s2 σ H2 x y v u Q I2 rx ry q) hm
def Xf (r r':R2) (ta tb tc:TE):TE:=fun σ H Q=>ta σ H fun x H1=>tb σ H1 fun y H2=>r x y H2 fun z H3=>∃ k,z=.bl k /\
 (if k=true then tc σ H3 fun w' H4=>r' y w' H4 Q else Q (.bl false) H3)
theorem M8 {op op':CmpOp} {r r':R2} (ho:iD X (compareOp op) r) (ho':iD X (compareOp op') r') (ha:PE X a ta) (hb:PE X b tb) (hc:PE X c tc)
   (hm:lastMarks [op,op'] [b,c]=false:=by with_unfolding_all rfl):PE X (.Compare a [op,op'] [b,c] pos) (Xf r r' ta tb tc):=by
 intro pins s σ H Q I h
 refine Compare_chain (eE (ha pins s σ H _ I h) fun v s1 ⟨x,H1,I1,r1,q1⟩=>chain_link (eE (hb pins s1 σ H1 _ I1 q1) fun u s2 ⟨y,H2,I2,r2,q2⟩ =>
   eE (ho pins s2 σ H2 x y v u _ I2 r1 r2 q2) fun d s3 ⟨z,H3,I3,r3,k,e,q3⟩=>?_)) hm
 subst e
 cases r3
 refine wpAny_truthy_bool ?_
 cases k with
 | false=>exact ite_ff ⟨.bl false,H3,I3,rfl,q3⟩
 | true=>exact ite_tt (chain_last (eE (hc pins s3 σ H3 _ I3 q3) fun w' s4 ⟨z',H4,I4,r4,q4⟩=>ho' pins s4 σ H4 y z' u w' Q I4 r2 r4 q4))
theorem rJ:(sizeLine:Nat)<2 ^ 63:=by rw [sizeLine_eq]; decide
theorem Eh:iD X (binaryOp .Add) (fun x y H Q=>∃ i j,x=.str i/\y=.str j/\i.length+j.length<=sizeLine/\Q (.str (i++j)) H):=by
 intro pins s σ H x y v u Q I rx ry h
 obtain ⟨i,j,rfl,rfl,hz,q⟩:=h
 obtain ⟨t,rfl⟩:=rx
 obtain ⟨t',rfl⟩:=ry
 exact add_str (fun t' tk=>⟨.str (i++j),H,I.tok _,⟨_,rfl⟩,q⟩) hz
theorem vals1 {x:V} {us:List Value} (r:Vals [x] us):∃ u,us=[u]/\RelV x u:=by
 cases r with
 | cons r1 r2=>cases r2; exact ⟨_,rfl,r1⟩
theorem vals2 {x y:V} {us:List Value} (r:Vals [x,y] us):∃ u w',us=[u,w']/\RelV x u/\RelV y w':=by
 cases r with
 | cons r1 r2 =>
   cases r2 with
   | cons r3 r4=>cases r4; exact ⟨_,_,rfl,r1,r3⟩
theorem oY (hc:X.calm=true):gC X (.builtin "max") (fun xs H Q=>∃ i j,xs=[.int i,.int j]/\Q (.int (if j > i then j else i)) H):=by
 intro pins s σ H xs us Q I r h
 obtain ⟨i,j,rfl,q⟩:=h
 obtain ⟨u,w',rfl,⟨t,rfl⟩,⟨t',rfl⟩⟩:=vals2 r
 refine max_two_ints (I.ok.hd hc) fun h' tk k=>⟨_,H,I.kept k,?_,q⟩
 by_cases hj:j > i
 . rw [if_pos hj,if_pos hj]; exact ⟨_,rfl⟩
 . rw [if_neg hj,if_neg hj]; exact ⟨_,rfl⟩
theorem JF (hc:X.calm=true):gC X (.builtin "min") (fun xs H Q=>∃ i j,xs=[.int i,.int j]/\Q (.int (if j<i then j else i)) H):=by
 intro pins s σ H xs us Q I r h
 obtain ⟨i,j,rfl,q⟩:=h
 obtain ⟨u,w',rfl,⟨t,rfl⟩,⟨t',rfl⟩⟩:=vals2 r
 refine min_two_ints (I.ok.hd hc) fun h' tk k=>⟨_,H,I.kept k,?_,q⟩
 by_cases hj:j<i
 . rw [if_pos hj,if_pos hj]; exact ⟨_,rfl⟩
 . rw [if_neg hj,if_neg hj]; exact ⟨_,rfl⟩
theorem JG:gC X (.type "int") (fun xs H Q=>(∃ i,xs=[.int i]/\Q (.int i) H)∨∃ k,xs=[.bl k]/\Q (.int (if k then 1 else 0)) H):=by
 intro pins s σ H xs us Q I r h
 rcases h with ⟨i,rfl,q⟩ | ⟨k,rfl,q⟩
 . obtain ⟨u,rfl,t,rfl⟩:=vals1 r
   exact call_int_int ⟨.int i,H,I,⟨_,rfl⟩,q⟩
 . obtain ⟨u,rfl,r1⟩:=vals1 r
   cases r1
   exact call_int_bool ⟨.int (if k then 1 else 0),H,I.tok _,⟨_,rfl⟩,q⟩
theorem yG:gC X (.type "str") (fun xs H Q=>∃ i,xs=[.int i]/\i.natAbs.log2<1920/\Q (.str (toString i)) H):=by
 intro pins s σ H xs us Q I r h
 obtain ⟨i,rfl,hz,q⟩:=h
 obtain ⟨u,rfl,t,rfl⟩:=vals1 r
 exact PySem.P.str_of_int hz ⟨.str _,H,I.tok _,⟨_,rfl⟩,q⟩
theorem Bc:gC X (.builtin "divmod") (fun xs H Q=>∃ i j,xs=[.int i,.int j]/\aaJ i j/\∀ p,H p=none->Q (.ref p) (upd H p (.tup [.int (i / j),.int (i % j)]))):=by
 intro pins s σ H xs us Q I r h
 obtain ⟨i,j,rfl,⟨h1,h2⟩,q⟩:=h
 obtain ⟨u,w',rfl,⟨t,rfl⟩,⟨t',rfl⟩⟩:=vals2 r
 refine divmod_int (by omega) ?_ (.inl (PyProof.noPylong_small (by omega)))
 rw [Int.fdiv_eq_ediv_of_nonneg i (by omega),Int.fmod_eq_emod_of_nonneg i (by omega)]
 have hn:H s.heap.objs.size=none:=I.hok.fresh (Nat.le_refl _)
 refine ⟨.ref s.heap.objs.size,_,?_,rfl,q _ hn⟩
 refine I.laid (fun b o e=>Heap.get?_push_of_some _ e) (Nat.le_refl _) ⟨by simp only [List.length_cons,List.length_nil]; rw [sizeLine_eq]; decide,[.int (i / j) s.toks,.int (i % j) (s.toks+1)],.cons ⟨_,rfl⟩ (.cons ⟨_,rfl⟩ .nil),?_⟩
 exact ⟨_,Heap.get?_push_size s.heap rfl,rfl,⟨0,rfl⟩,rfl⟩
end
end L2
namespace L2
open PySem PySem.Spec PyProof.Rows
structure Xg (h:Heap) (x dx C:Addr) (mA:Str->Option Value):Prop where
 obj:h.get? x=some (PySem.W.instObj C dx)
 ns:h.Ns1 dx mA
 ne:dx≠x
theorem JH {h:Heap} {dx:Addr} {mA:Str->Option Value} (n:h.Ns1 dx mA):∃ od,h.get? dx=some od/\∀ name,PySem.W.lookIn name od=some (mA name):=by
 obtain ⟨o,es,ep,ho,hd,hk,_,hm⟩:=n
 refine ⟨o,ho,fun name=>?_⟩
 have e:=hm name
 unfold nsFind findBy at e
 rw [<- Array.find?_toList] at e
 unfold PySem.W.lookIn
 rw [hd]
 dsimp only
 split
 . rename_i y q
   rw [q] at e
   exact congrArg some e
 . rename_i q
   rw [q] at e
   have a:es.toList.any (·.refKey)=false:=by
     rw [List.any_eq_false]
     intro y hy
     obtain ⟨z,t,hkey⟩:=hk y (Array.mem_toList_iff.mp hy)
     simp [DictEntry.refKey,hkey]
   have a':¬ es.toList.any (·.refKey)=true:=by rw [a]; exact Bool.false_ne_true
   rw [if_neg a']
   exact congrArg some e
theorem Xg.look {h:Heap} {x dx C:Addr} {mA:Str->Option Value} (I:Xg h x dx C mA):∃ od,PySem.W.InstAt h x (PySem.W.instObj C dx) C (some od)/\∀ name,PySem.W.lookIn name od=some (mA name) :=
 let ⟨od,ho,hl⟩:=JH I.ns
 ⟨od,⟨I.obj,rfl,rfl,ho⟩,hl⟩
section
variable {prog:Program} {w:World} {A:Around} {E:Value->Shared->Prop} {s:Shared} {K:PySem.W.Frag} {x dx C f:Addr} {mA:Str->Option Value} {name:Str} {v:Value}
end
theorem rF.some_of {v:V} {o:Option Value} (r:rF (some v) o):∃ u,o=some u/\RelV v u:=by
 cases o with
 | none=>exact (show False from r).elim
 | some u=>exact ⟨u,rfl,r⟩
section
variable {P:Program} {w:World} {H H':Hp} {h h':Heap} {a C dx:Addr} {fs fs':List (Str × V)}
theorem RV (hok:pY P w H h) (e:H a=some (.ins C dx fs)):∃ mA,Xg h a dx C mA/\(∀ f,rF (fs.lookup f) (mA f))/\PySem.Within mA (fs.map (·.1))/\fs.length<=1000/\H dx=some (.own a):=by
 obtain ⟨d,z,ne,ob,mA,n,r,q⟩:=(show dR P w H h a (.ins C dx fs) from hok a _ e)
 exact ⟨mA,⟨ob,n,ne⟩,r,q,z,d⟩
end
structure Cls (K:PySem.W.Frag) (C:Addr):Prop where
 pg:PySem.W.plainGet K C Str.empty=true
 hd:PySem.W.hasDictIn K C=true
 po:PySem.W.plainOver K C=true
 sa:PySem.W.findIn K (.ref C) "__setattr__" = some (some (.builtin "object.__setattr__"))
theorem Cls.get {K:PySem.W.Frag} {C:Addr} (c:Cls K C) (f:Str):PySem.W.plainGet K C f=true:=c.pg
section
variable {X:Cx} {pins:List (Addr × Obj)} {σ:St} {H:Hp} {s:Shared} {a C dx:Addr} {fs:List (Str × V)} {f:Str} {v:V} {A:Around} {E:Value->Shared->Prop}
end
section
variable {X:Cx} {o e value:Expr} {f:Str} {pos pos' tpos:Pos} {ta tv:TE}
end
section
variable {X:Cx} {pins:List (Addr × Obj)} {σ:St} {H:Hp} {s:Shared} {A:Around} {E:Value->Shared->Prop} {Q:Value->Shared->Prop} {c:Value} {b:Bool}
inductive jJ (K:PySem.W.Frag) (H:Hp):V->Value->Prop where
 | non:jJ K H .non (.type "NoneType")
 | bl (x:Bool):jJ K H (.bl x) (.type "bool")
 | int (i:Int):jJ K H (.int i) (.type "int")
 | str (x:Str):jJ K H (.str x) (.type "str")
 | flt (x:UInt64):jJ K H (.flt x) (.type "float")
 | lst {a:Addr} {xs:List V} (e:H a=some (.lst xs)):jJ K H (.ref a) (.type "list")
 | nu {a:Addr} {o:Obj} {xs:List V} (e:H a=some (.nu o (.lst xs))):jJ K H (.ref a) (.type "list")
 | tup {a:Addr} {xs:List V} (e:H a=some (.tup xs)):jJ K H (.ref a) (.type "tuple")
 | dK {a:Addr} {kvs:List (Key × V)} (e:H a=some (.dK kvs)):jJ K H (.ref a) (.type "dict")
 | dT {a:Addr} {kvs:List (List Key × V)} (e:H a=some (.dT kvs)):jJ K H (.ref a) (.type "dict")
 | ins {a C dx:Addr} {fs:List (Str × V)} (e:H a=some (.ins C dx fs)) (cl:Cls K C) (ha:PySem.W.findIn K (.ref C) "__class__" = some (some (.builtin "object.__class__")))
     (hn:PySem.W.specialIn K (.builtin "object.__class__") "__get__" = some (some (.builtin "getset_descriptor.__get__"))) (htk:PySem.W.takesIn K (.builtin "object.__class__")=some true)
     (hm:PySem.W.mroIn K C (.type "object")=some true):jJ K H (.ref a) (.ref C)
theorem JK {x:V} {u t:Value} (I:Inv X pins σ H s) (rx:RelV x u) (ty:jJ X.K H x t) (e:PySem.W.kitOne X.K t c=some b) (h:∀ tk,Q (.bool b) { s with toks:=tk }) :
   wpAny (model X.prog X.w) A (call (.builtin "isinstance") [u,c]) Q E s:=by
 cases ty with
 | non=>cases (show u=Value.none from rx); exact PySem.W.kia_one PySem.W.kitx_none I.Av True.intro e (fun z=>nomatch z) h
 | bl y=>cases (show u=Value.bool y from rx); exact PySem.W.kia_one PySem.W.kitx_bool I.Av True.intro e (fun z=>nomatch z) h
 | int i=>obtain ⟨t,q⟩:=(show ∃ t,u=Value.int i t from rx); cases q; exact PySem.W.kia_one PySem.W.kitx_int I.Av True.intro e (fun z=>nomatch z) h
 | str y=>obtain ⟨t,q⟩:=(show ∃ t,u=Value.str y t from rx); cases q; exact PySem.W.kia_one PySem.W.kitx_str I.Av True.intro e (fun z=>nomatch z) h
 | flt y=>obtain ⟨t,q⟩:=(show ∃ t,u=Value.float y t from rx); cases q; exact PySem.W.kia_one PySem.W.kitx_float I.Av True.intro e (fun z=>nomatch z) h
 | @lst a xs ea =>
   cases (show u=Value.ref a from rx)
   obtain ⟨_,_,n,_,h1⟩:=(show dR X.prog X.w H s.heap a (.lst xs) from I.hok a _ ea)
   exact PySem.W.kia_one PySem.W.kitx_list I.Av ⟨_,h1,rfl⟩ e (fun z=>nomatch z) h
 | @nu a ob xs ea =>
   cases (show u=Value.ref a from rx)
   obtain ⟨_,_,_,n,_,h1⟩:=(show dR X.prog X.w H s.heap a (.nu ob (.lst xs)) from I.hok a _ ea)
   exact PySem.W.kia_one PySem.W.kitx_list I.Av ⟨_,h1,rfl⟩ e (fun z=>nomatch z) h
 | @tup a xs ea =>
   cases (show u=Value.ref a from rx)
   obtain ⟨_,_,_,p⟩:=(show dR X.prog X.w H s.heap a (.tup xs) from I.hok a _ ea)
   obtain ⟨o,h1,h2,_⟩:=p
   exact PySem.W.kia_one PySem.W.kitx_tuple I.Av ⟨o,h1,h2⟩ e (fun z=>nomatch z) h
 | @dK a kvs ea =>
   cases (show u=Value.ref a from rx)
   obtain ⟨_,_,vs,_,p⟩:=(show dR X.prog X.w H s.heap a (.dK kvs) from I.hok a _ ea)
   obtain ⟨o,es,ep,h1,h2,_⟩:=p
   exact PySem.W.kia_one PySem.W.kitx_dict I.Av ⟨o,h1,h2.1⟩ e (fun z=>nomatch z) h
 | @dT a kvs ea =>
   cases (show u=Value.ref a from rx)
   obtain ⟨_,_,xs,_,o,es,ep,h1,h2,_⟩:=(show dR X.prog X.w H s.heap a (.dT kvs) from I.hok a _ ea)
   exact PySem.W.kia_one PySem.W.kitx_dict I.Av ⟨o,h1,h2.1⟩ e (fun z=>nomatch z) h
 | @ins a C dx fs ea cl ha hn htk hm =>
   cases (show u=Value.ref a from rx)
   obtain ⟨mA,O,_⟩:=RV I.hok ea
   obtain ⟨od,J,_⟩:=O.look
   exact PySem.W.kia_one (PySem.W.kitx_own (cl.get _) cl.hd ha hn htk hm) I.Av J e (fun z=>nomatch z) h
end
end L2
namespace L2
open PySem PySem.Spec PyProof.Rows
structure kZ (k:Nat) (A:Around):Prop where
 hd:A.handled=none
 dp:A.depth+3 * k+5<recursionLimit
 un:A.units+16 * k+200<cLine
theorem kZ.mono {j k:Nat} {A:Around} (r:kZ k A) (h:j<=k):kZ j A:=⟨r.hd,by have:=r.dp; omega,by have:=r.un; omega⟩
theorem kZ.deeper {k:Nat} {A:Around} (r:kZ (k+1) A) (env:Env):kZ k (A.deeper env) :=
 ⟨r.hd,by have:=r.dp; show A.depth+1+3 * k+5<_; omega,by have:=r.un; show A.units+3+16 * k+200<_; omega⟩
theorem kZ.depth {k:Nat} {A:Around} (r:kZ k A):A.depth<recursionLimit:=by have:=r.dp; omega
theorem kZ.units {k:Nat} {A:Around} (r:kZ k A):A.units+64<cLine:=by have:=r.un; omega
theorem kZ.Ei {k:Nat} {A:Around} (r:kZ k A):A.units<cLine:=by have:=r.un; omega
def iI:TA:=fun _ H Q=>Q [] H
def cj (ta:TE) (tr:TA):TA:=fun σ H Q=>ta σ H fun x H1=>tr σ H1 fun xs H2=>Q (x :: xs) H2
section
variable {X:Cx} {e:Expr} {es:List Expr} {te:TE} {t:TA} {pos:Pos}
theorem ak:PA X [] iI:=fun _ _ _ _ H Q I h=>Calls.spliced_nil ⟨[],H,I,.nil,h⟩
theorem aj (ha:PE X e te) (hr:PA X es t) (hs:starEach (e :: es) X.env=(false,eval e X.env) :: starEach es X.env:=by rfl):PA X (e :: es) (cj te t):=by
 intro pos pins s σ H Q I h
 rw [hs]
 show wpAny _ _ (spliced ((false,eval e X.env) :: backTo pos (starEach es X.env))) _ _ s
 refine Calls.spliced_cons (eE (ha pins s σ H _ I h) fun u s1 ⟨x,H1,I1,r1,q1⟩=>?_)
 exact eE (hr pos pins s1 σ H1 _ I1 q1) fun us s2 ⟨xs,H2,I2,r2,q2⟩=>⟨x :: xs,H2,I2,.cons r1 r2,q2⟩
def mF (t:TA):TE:=fun σ H Q=>t σ H fun xs H1=>xs.length<=sizeLine/\∀ p,H1 p=none->Q (.ref p) (upd H1 p (.tup xs))
def rK (t:TA):TE:=fun σ H Q=>t σ H fun xs H1=>xs.length<=sizeLine/\∀ p,H1 p=none->Q (.ref p) (upd H1 p (.lst xs))
theorem bI {x1} (h:PA X es t):PE X (.Tuple es x1 pos) (mF t):=by
 intro pins s σ H Q I hq
 refine wpAny_Tuple_spliced (eE (h pos pins s σ H _ I hq) fun us s1 ⟨xs,H1,I1,r,z,q⟩=>⟨by rw [<- r.length]; exact z,?_⟩)
 have hf:H1 s1.heap.objs.size=none:=I1.hok.fresh (Nat.le_refl _)
 refine ⟨.ref s1.heap.objs.size,upd H1 s1.heap.objs.size (.tup xs),I1.laid (t':=s1.toks) (fun b u e=>Heap.get?_push_of_some _ e) (Nat.le_refl _) ?_,rfl,q _ hf⟩
 exact ⟨z,us,r,⟨_,Heap.get?_push_size _ rfl,rfl,⟨_,rfl⟩,rfl⟩⟩
theorem fQ (h:PA X es t):PE X (.List es pos) (rK t):=by
 intro pins s σ H Q I hq
 refine wpAny_List_spliced (eE (h pos pins s σ H _ I hq) fun us s1 ⟨xs,H1,I1,r,z,q⟩=>⟨by rw [<- r.length]; exact z,?_⟩)
 have hf:H1 s1.heap.objs.size=none:=I1.hok.fresh (Nat.le_refl _)
 refine ⟨.ref s1.heap.objs.size,upd H1 s1.heap.objs.size (.lst xs),I1.laid (t':=s1.toks) (fun b u e=>Heap.get?_push_of_some _ e) (Nat.le_refl _) ?_,rfl,q _ hf⟩
 exact ⟨z,us,0,r,Heap.get?_push_size _ rfl⟩
end
abbrev Sp:=List V->Hp->VK->XK->Prop
abbrev JL:=List Env->Hp->Shared->XK->Value->Shared->Prop
structure RW (P:Program) (w:World) (K:PySem.W.Frag) (mg:Str->Option Value) (base:Heap) (A:Around) (outer:List Env) (s:Shared) (H:Hp):Prop where
 frames:A.frames=some outer
 mod:Mod K mg base
 bs:∀ b o,base.get? b=some o->s.heap.get? b=some o/\H b=none
 VB:base.objs.size<=s.heap.objs.size
 uM:s.heap.FunFrames base outer
 Z4:∀ b∈frs outer,H b=none
 hok:pY P w H s.heap
 bare:AllBare s.gens
def CE (outer:List Env) (P:Program) (w:World) (H:Hp) (s:Shared) (Q:VK) (u:Value) (s':Shared):Prop :=
 ∃ v H',s'.os=s.os/\AllBare s'.gens/\Un (frs outer) [] H H' s.heap s'.heap/\pY P w H' s'.heap/\RelV v u/\Q v H'
def CR (CX:JL) (outer:List Env) (P:Program) (w:World) (H:Hp) (s:Shared) (Q:VK) (E:XK) (r:Result) (s':Shared):Prop :=
 match r with
 | .ok (.ret u)=>CE outer P w H s Q u s'
 | .ok _=>False
 | .error e=>CX outer H s E e s'
structure aX (P:Program) (w:World) (K:PySem.W.Frag) (mg:Str->Option Value) (base:Heap) (CX:JL) (k:Nat) (f:Addr) (fd:FuncData) (ps:List Str) (sp:Sp):Prop where
 len:∀ vs H Q E,sp vs H Q E->vs.length=ps.length
 run:∀ (A:Around) (outer:List Env) (s:Shared) (H:Hp) (args:Args) (us:List Value) (vs:List V) (Q:VK) (E:XK),kZ k A->RW P w K mg base A outer s H->BindsTo s fd args (ps.zip us)->Vals vs us->sp vs H Q E ->
   codeAny (model P w) A (.call (.ref f) args) (CR CX outer P w H s Q E) s
theorem aX.mono {P:Program} {w:World} {K:PySem.W.Frag} {mg:Str->Option Value} {base:Heap} {CX:JL} {j k:Nat} {f:Addr} {fd:FuncData} {ps:List Str} {sp:Sp} (F:aX P w K mg base CX j f fd ps sp) (h:j<=k) :
   aX P w K mg base CX k f fd ps sp:=⟨F.len,fun A outer s H args us vs Q E hr=>F.run A outer s H args us vs Q E (hr.mono h)⟩
section
variable {X:Cx} {pins:List (Addr × Obj)} {σ:St} {H:Hp} {s s':Shared}
theorem Inv.env0 (I:Inv X pins σ H s):RW X.prog X.w X.K X.mg X.base X.A X.stack s H :=
 ⟨I.ok.frames,I.ok.mod,I.bs,Nat.le_trans I.ok.VB I.sz,I.stack,I.Hj,I.hok,I.bare⟩
theorem Inv.after {Q:VK} {u:Value} (I:Inv X pins σ H s) (h:CE X.stack X.prog X.w H s Q u s'):EP X pins σ Q u s':=by
 obtain ⟨v,H',os,bare,un,hok,r,q⟩:=h
 obtain ⟨hh,g,d,t,os'⟩:=s'
 obtain rfl:os'=s.os:=os
 exact ⟨v,H',I.call (h':=hh) (g':=g) (d':=d) (t':=t) (ch:=[]) un hok bare (fun b z=>absurd z (by simp)),r,q⟩
end
def VG (sp:Sp) (M9:List V) (E:XK) (t:TA):TE:=fun σ H Q=>t σ H fun vs H1=>sp (vs++M9) H1 Q E
def Binds (K:PySem.W.Frag) (fd:FuncData) (ps:List Str) (ds:List Value):Prop :=
 ∀ (s:Shared) (us:List Value),K.In s.heap->(us++ds).length=ps.length->BindsTo s fd ⟨us,[]⟩ (ps.zip (us++ds))
theorem Binds.all {K:PySem.W.Frag} {fd:FuncData} {ps:List Str} (h:∀ us:List Value,us.length=ps.length->bindArgs fd ⟨us,[]⟩=pure (ps.zip us)):Binds K fd ps []:=fun s us _ hl=>by
 rw [List.append_nil] at hl ⊢
 exact .of_eq (h us hl)
def Passes (CX:JL) (X:Cx) (E:XK):Prop:=∀ (pins:List (Addr × Obj)) (σ:St) (H:Hp) (s:Shared) (e:Value) (s':Shared),Inv X pins σ H s->CX X.stack H s E e s'->X.xe e s'
section
variable {X:Cx} {CX:JL} {k:Nat} {f C:Addr} {fd:FuncData} {ps:List Str} {sp:Sp} {M9:List V} {ds:List Value} {E:XK} {x m:Str} {p pos apos:Pos} {e o:Expr} {es:List Expr} {ta:TE} {t:TA}
theorem Xh {pins:List (Addr × Obj)} {σ:St} {H:Hp} {s:Shared} {Q:VK} {us:List Value} {vs:List V} (F:aX X.prog X.w X.K X.mg X.base CX k f fd ps sp) (hr:kZ k X.A) (hb:Binds X.K fd ps ds) (hd:Vals M9 ds) (hx:Passes CX X E)
   (I:Inv X pins σ H s) (r:Vals vs us) (h:sp (vs++M9) H Q E):wpAny (model X.prog X.w) X.A (call (.ref f) us) (EP X pins σ Q) X.xe s:=by
 have r2:Vals (vs++M9) (us++ds):=r.append hd
 have hl:(us++ds).length=ps.length:=by rw [<- r2.length]; exact F.len _ _ _ _ h
 refine wpAny_call (codeAny_mono (F.run X.A X.stack s H ⟨us,[]⟩ (us++ds) (vs++M9) Q E hr I.env0 (hb s us I.Av hl) r2 h) fun r s' hq=>?_)
 cases r with
 | error e=>exact hx pins σ H s e s' I hq
 | ok fl =>
   cases fl with
   | ret u=>exact I.after hq
   | next=>exact False.elim hq
   | brk=>exact False.elim hq
   | cont=>exact False.elim hq
theorem aM (F:aX X.prog X.w X.K X.mg X.base CX k f fd ps sp) (hr:kZ k X.A) (hg:Gl X x) (hm:X.mg x=some (.ref f)) (hk:PySem.W.keepIn X.K (.ref f)=true) (hb:Binds X.K fd ps ds) (hd:Vals M9 ds) (hx:Passes CX X E)
   (ha:PA X (e :: es) t) (hdb:(x == ("__debug__" : Str))=false:=by decide) (he:starEach (e :: es) X.env=(false,eval e X.env) :: starEach es X.env:=by rfl) (hpl:(backTo pos (starEach es X.env)).any (·.1)=false:=by rfl) :
   PE X (.Call (.Name x p) (e :: es) [] pos) (VG sp M9 E t):=by
 intro pins s σ H Q I h
 refine wpAny_Call_Name_kw (Ho I hg hm ?_ hdb)
 refine PySem.W.callWith_K (h₀:=X.base) I.ok.mod.kin hk (eE (ha pos pins s σ H _ I h) fun us s1 ⟨vs,H1,I1,r,q⟩=>⟨I1.Av,?_⟩) he hpl
 exact Xh F hr hb hd hx I1 r q
end
section
variable {X:Cx} {CX:JL} {k:Nat} {f C:Addr} {fd:FuncData} {ps ks:List Str} {sp:Sp} {E:XK} {x m:Str} {p pos apos kpos:Pos} {e o:Expr} {es:List Expr} {kws:List Keyword} {te ta:TE} {t tk:TA} {nm:Option Str}
variable {g:List Value->List Value->List Value} {gV:List V->List V->List V}
end
structure bG (N P:List Str) (sc:Scope):Prop where
 kind:sc.kind=.function
 co:sc.isCoroutine=false
 gen:sc.isGenerator=false
 nd:N.Nodup
 pre:N.take P.length=P
 par:∀ x∈P,sc.names.lookup x=some .local∨sc.names.lookup x=some .cell
 Xi:∀ y∈sc.names,y.2≠.free
theorem wU {kindOf:Str->Option NameKind} {x:Str}:∀ {binds:List (Str × Value)} {m:Str->Option Value},(∀ v,(x,v) ∉ binds)->bindL kindOf binds m x=m x
 | [],_,_=>rfl
 | (n,v) :: r,m,h=>by
   unfold bindL
   rw [wU fun w hw=>h w (List.mem_cons_of_mem _ hw)]
   split
   . have:x≠n:=by rintro rfl; exact h v List.mem_cons_self
     simp [this]
   . rfl
theorem wV {kindOf:Str->Option NameKind} {x:Str}:∀ {binds:List (Str × Value)} {m:Str->Option Value},(∀ v,(x,v) ∉ binds)->bindC kindOf binds m x=m x
 | [],_,_=>rfl
 | (n,v) :: r,m,h=>by
   unfold bindC
   rw [wV fun w hw=>h w (List.mem_cons_of_mem _ hw)]
   split
   . rfl
   . have:x≠n:=by rintro rfl; exact h v List.mem_cons_self
     simp [this]
theorem wW {kindOf:Str->Option NameKind} {x:Str} {v:Value}:∀ {P:List Str} {vs:List Value} {i:Nat} {m:Str->Option Value},P.Nodup->P[i]?=some x->vs[i]?=some v->kindOf x=some .local ->
   bindL kindOf (P.zip vs) m x=some v
 | [],_,_,_,_,h,_,_=>by simp at h
 | _ :: _,[],_,_,_,_,h,_=>by simp at h
 | p :: P,w :: vs,0,m,nd,h1,h2,hk=>by
   simp at h1 h2; subst h1; subst h2
   show bindL kindOf ((p,w) :: P.zip vs) m p=_
   unfold bindL
   rw [wU fun v hv=>(List.nodup_cons.mp nd).1 (List.of_mem_zip hv).1,if_pos hk]
   simp
 | p :: P,w :: vs,i+1,m,nd,h1,h2,hk=>by
   show bindL kindOf ((p,w) :: P.zip vs) m x=_
   unfold bindL
   exact wW (i:=i) (List.nodup_cons.mp nd).2 (by simpa using h1) (by simpa using h2) hk
theorem wX {kindOf:Str->Option NameKind} {x:Str} {v:Value}:∀ {P:List Str} {vs:List Value} {i:Nat} {m:Str->Option Value},P.Nodup->P[i]?=some x->vs[i]?=some v->kindOf x≠some .local ->
   bindC kindOf (P.zip vs) m x=some v
 | [],_,_,_,_,h,_,_=>by simp at h
 | _ :: _,[],_,_,_,_,h,_=>by simp at h
 | p :: P,w :: vs,0,m,nd,h1,h2,hk=>by
   simp at h1 h2; subst h1; subst h2
   show bindC kindOf ((p,w) :: P.zip vs) m p=_
   unfold bindC
   rw [wV fun v hv=>(List.nodup_cons.mp nd).1 (List.of_mem_zip hv).1,if_neg hk]
   simp
 | p :: P,w :: vs,i+1,m,nd,h1,h2,hk=>by
   show bindC kindOf ((p,w) :: P.zip vs) m x=_
   unfold bindC
   exact wX (i:=i) (List.nodup_cons.mp nd).2 (by simpa using h1) (by simpa using h2) hk
def start (N:List Str) (vs:List V):St:=vs.map some++List.replicate (N.length-vs.length) none
def JM (CX:JL) (P:Program) (w:World) (K:PySem.W.Frag) (mg:Str->Option Value) (base:Heap) (N:List Str) (qual:Str) (scope:Scope) (f:Addr) (cd:Value) (A:Around) (outer:List Env) (s:Shared) (H:Hp) (E:XK):Cx where
 prog:=P
 w:=w
 K:=K
 mg:=mg
 base:=base
 A:=A.deeper (envOfC qual scope s.heap.objs.size f cd)
 N:=N
 s₀:=s
 H₀:=H
 env:=envOfC qual scope s.heap.objs.size f cd
 outer:=outer
 stack:=envOfC qual scope s.heap.objs.size f cd :: outer
 ex:=[]
 calm:=true
 fn:=fun _=>true
 pn:=[]
 xe:=fun e s'=>wpAny (model P w) (A.deeper (envOfC qual scope s.heap.objs.size f cd)) (leaving (envOfC qual scope s.heap.objs.size f cd) e) (fun _ s''=>CX outer H s E e s'') (fun e' s''=>CX outer H s E e' s'') s'
theorem uP {sc:Scope} {n:Nat} {x:Str} (h:sc.names.lookup x=some .cell):∃ c,(cellsFrom n sc.names []).lookup x=some c:=by
 have q:=PySem.W.cellsFrom_some sc.names n [] (.inl h)
 exact Option.isSome_iff_exists.mp q
theorem JN {CX:JL} {P:Program} {w:World} {K:PySem.W.Frag} {mg:Str->Option Value} {base:Heap} {N ps:List Str} {qual:Str} {scope:Scope} {f:Addr} {cd:Value} {A:Around} {outer:List Env} {s s1:Shared} {H:Hp} {E:XK} {us:List Value} {vs:List V}
   (S:bG N ps scope) (hd:A.handled=none) (e0:RW P w K mg base A outer s H) (hl:vs.length=ps.length) (r:Vals vs us)
   (x:InCallC s s.heap.objs.size (bindL (envOfC qual scope s.heap.objs.size f cd).kindOf (ps.zip us) fun _=>none) (cellsFrom (s.heap.objs.size+1) scope.names []) (bindC (envOfC qual scope s.heap.objs.size f cd).kindOf (ps.zip us) fun _=>none) s1) :
   Inv (JM CX P w K mg base N qual scope f cd A outer s H E) [] (start N vs) H s1:=by
 have hpl:ps.length<=N.length:=by have:=congrArg List.length S.pre; rw [List.length_take] at this; omega
 obtain ⟨h1,tk,rfl,hk⟩:=x.done
 have noA:∀ b:Addr,b ∉ (JM CX P w K mg base N qual scope f cd A outer s H E).ex:=fun b z=>absurd (show b∈([]:List Addr) from z) (by simp)
 refine ⟨⟨e0.mod,S.kind,rfl,rfl,Nat.le_refl _,fun y z c h1 h2=>?_,fun y hy=>?_,fun y c _ h=>?_,fun _=>hd,Around.frames_deeper e0.frames,.inr ⟨rfl,rfl⟩,fun b z=>absurd z (noA b),e0.bs,e0.VB,fun b _ _=>noA b,fun b z=>absurd z (noA b),e0.uM,e0.Z4⟩,
   rfl,e0.bare,Un.kept hk,⟨_,x.toInCall.ns,fun i y v h1 h2 h3=>?_⟩,fun y c h=>⟨_,x.cell y c h⟩,e0.hok.fresh (Nat.le_refl _),fun y c h=>?_,fun p hp=>absurd (show p∈([]:List (Addr × Obj)) from hp) (by simp),e0.hok.kept hk,?_⟩
 . exact name_of_addr x.apart (PySem.mem_of_lookup h1) (PySem.mem_of_lookup h2)
 . have hy:scope.names.lookup y=some .cell∨scope.names.lookup y=some .free:=hy
   rcases hy with hy | hy
   . exact uP hy
   . exact absurd rfl (S.Xi _ (PySem.mem_of_lookup hy))
 . exact Nat.le_of_lt (x.above y c (PySem.mem_of_lookup h))
 . have hi:i<vs.length:=by
     unfold start at h2
     by_cases hi:i<vs.length
     . exact hi
     . rw [List.getElem?_append_right (by simpa using hi)] at h2
       rw [List.getElem?_replicate] at h2
       split at h2 <;> cases h2
   have ha:vs[i]?=some v:=by
     unfold start at h2
     rw [List.getElem?_append_left (by simpa using hi),List.getElem?_map] at h2
     cases e:vs[i]? with
     | none=>rw [e] at h2; cases h2
     | some a=>rw [e] at h2; cases h2; rfl
   obtain ⟨u,hu,rv⟩:=r.get ha
   have hp:ps[i]?=some y:=by
     rw [<- S.pre,List.getElem?_take_of_lt (by omega)]; exact h1
   have ndP:ps.Nodup:=by rw [<- S.pre]; exact S.nd.sublist (List.take_sublist _ _)
   refine ⟨u,rv,?_⟩
   rcases S.par y (List.mem_of_getElem? hp) with k | k
   . exact .inl ⟨k,wW ndP hp hu k⟩
   . obtain ⟨c,e⟩:=uP (n:=s.heap.objs.size+1) k
     refine .inr ⟨.inl k,c,e,?_⟩
     have q:=x.cell y c e
     rw [wX ndP hp hu (by show scope.names.lookup y≠_; rw [k]; decide)] at q
     exact q
 . exact e0.hok.fresh (Nat.le_of_lt (x.above y c (PySem.mem_of_lookup h)))
 . unfold start
   show _=N.length
   rw [List.length_append,List.length_map,List.length_replicate]
   omega
theorem aaT {CX:JL} {P:Program} {w:World} {K:PySem.W.Frag} {mg:Str->Option Value} {base:Heap} {k:Nat} {f:Addr} {name qual:Str} {params:Arguments} {body:List Stmt} {scope:Scope} {dV kV doc pm cdv ct oc:Value} {an od:Option Addr}
   {osl:Array (Option Value)} {N ps:List Str} {sp:Sp} (lk:K.lookup f=some ⟨oc,od,.func (PySem.W.fnOf name qual params body scope dV kV doc pm an cdv ct),osl⟩) (hcd:PySem.W.codeIn K cdv qual=true) (S:bG N ps scope)
   (len:∀ vs H Q E,sp vs H Q E->vs.length=ps.length)
   (hbody:∀ (A:Around) (outer:List Env) (s:Shared) (H:Hp) (vs:List V) (Q:VK) (E:XK),kZ k (A.deeper (envOfC qual scope s.heap.objs.size f cdv))->sp vs H Q E ->
     ∃ t,Jy (JM CX P w K mg base N qual scope f cdv A outer s H E) body t/\t { nx:=fun _ H'=>Q .non H',rt:=Q } (start N vs) H) :
   aX P w K mg base CX (k+1) f (PySem.W.fnOf name qual params body scope dV kV doc pm an cdv ct) ps sp:=by
 refine ⟨len,fun A outer s H args us vs Q E hr e0 hb r hsp=>?_⟩
 have hl:=len _ _ _ _ hsp
 have KX:K.In s.heap:=e0.mod.kin.keeps fun b o e=>(e0.bs b o e).1
 have lim:s.heap.NoLimit:=e0.mod.nolimit.keeps fun b o e=>(e0.bs b o e).1
 have hkind:∀ y∈ps.zip us,scope.names.lookup y.1=some .local∨(scope.names.lookup y.1=some .cell/\((cellsFrom (s.heap.objs.size+1) scope.names []).lookup y.1).isSome=true):=fun ⟨n,v⟩ hy=>by
   rcases S.par n (List.of_mem_zip hy).1 with q | q
   . exact .inl q
   . exact .inr ⟨q,PySem.W.cellsFrom_some _ _ _ (.inl q)⟩
 refine codeAny_call_function hr.depth (KX _ _ lk) rfl S.co S.gen rfl (PySem.W.codeRec_of KX hcd) (hb _ _ _ _ ?_)
 refine wpAny_newFunctionEnv_cells S.kind hkind fun env he s1 x=>?_
 subst he
 refine ⟨lim.keeps x.toInCall.keep,codeAny_func ?_⟩
 obtain ⟨t,ht,hq⟩:=hbody A outer s H vs Q E (hr.deeper _) hsp
 have I:Inv (JM CX P w K mg base N qual scope f cdv A outer s H E) [] (start N vs) H s1:=JN S hr.hd e0 hl r x
 refine wpAny_mono (ht [] s1 (start N vs) H _ I hq) (fun fl s' hs=>?_) fun e s' hs=>hs
 have fin:∀ {σ':St} {H':Hp} {v:V} {u:Value},Inv (JM CX P w K mg base N qual scope f cdv A outer s H E) [] σ' H' s'->RelV v u->Q v H'->CE outer P w H s Q u s' :=
   fun {σ' H' v u} J rv q=>⟨v,H',J.os,J.bare,J.base,J.hok,rv,q⟩
 cases fl with
 | ret u =>
   obtain ⟨v,σ',H',J,rv,q⟩:=hs
   exact fin J rv q
 | next =>
   obtain ⟨σ',H',J,q⟩:=hs
   exact fin (v:=V.non) (u:=Value.none) J rfl q
 | brk =>
   obtain ⟨_,_,_,q⟩:=hs
   exact False.elim q
 | cont =>
   obtain ⟨_,_,_,q⟩:=hs
   exact False.elim q
end L2
namespace L2
open PySem PySem.Spec PyProof.Rows
section
variable {X:Cx} {x:Str} {p pos:Pos} {e:Expr} {es:List Expr} {t:TA} {id T:String} {r:List V->Hp->VK->Prop}
def RZ (r:List V->Hp->VK->Prop) (t:TA):TE:=fun σ H Q=>t σ H fun vs H1=>r vs H1 Q
theorem aU (hc:gC X (.builtin id) r) (hg:Gl X x) (hm:X.mg x=none) (hv:bootBuiltins x=some (.builtin id)) (ha:PA X (e :: es) t) (hn:x≠"__name__":=by decide) (hdb:(x == ("__debug__" : Str))=false:=by decide)
   (he:starEach (e :: es) X.env=(false,eval e X.env) :: starEach es X.env:=by rfl) (hpl:(backTo pos (starEach es X.env)).any (·.1)=false:=by rfl):PE X (.Call (.Name x p) (e :: es) [] pos) (RZ r t):=by
 intro pins s σ H Q I h
 refine wpAny_Call_Name_kw (pZ I hg hm hv ?_ hn hdb)
 exact PyProof.Rows.callWith_builtin1 (eE (ha pos pins s σ H _ I h) fun us s1 ⟨vs,H1,I1,r1,q1⟩=>hc pins s1 σ H1 vs us Q I1 r1 q1) he hpl
theorem dB (hc:gC X (.type T) r) (hg:Gl X x) (hm:X.mg x=none) (hv:bootBuiltins x=some (.type T)) (ha:PA X (e :: es) t) (hn:x≠"__name__":=by decide) (hdb:(x == ("__debug__" : Str))=false:=by decide)
   (he:starEach (e :: es) X.env=(false,eval e X.env) :: starEach es X.env:=by rfl) (hpl:(backTo pos (starEach es X.env)).any (·.1)=false:=by rfl):PE X (.Call (.Name x p) (e :: es) [] pos) (RZ r t):=by
 intro pins s σ H Q I h
 refine wpAny_Call_Name_kw (pZ I hg hm hv ?_ hn hdb)
 exact PyProof.Rows.callWith_type1 (eE (ha pos pins s σ H _ I h) fun us s1 ⟨vs,H1,I1,r1,q1⟩=>hc pins s1 σ H1 vs us Q I1 r1 q1) he hpl
end
end L2
namespace HT
open PySem PyProof.Rows
section
open PySem.SeqAt
open PySem.AutoSeq1 (wpAny_loadPart')
open PySem.MeetsSeq PySem.MeetsSeq2 PySem.MeetsSeq3
end
section
variable {prog:Program} {w:World} {A:Around} {E:Value->Shared->Prop} {s:Shared}
theorem R0 {t b:Addr} {vs ws:List Value} {Q:Value->Shared->Prop} (ht:IsTup s.heap t vs.toArray) (hb:IsTup s.heap b ws.toArray) (hv:vs≠[])
   (h1:ws=[]->Q (.ref t) s) (h2:ws≠[]->Q (.ref s.heap.objs.size) { s with heap:=s.heap.push { cls:=.type "tuple",data:=.seq (vs++ws).toArray } })
   (hsz:vs.length+ws.length<=sizeLine):wpAny (model prog w) A (binaryOp .Add (.ref t) (.ref b)) Q E s:=by
 obtain ⟨⟨cls,dd,data,sl⟩,ho,hc,n,hd⟩:=id ht
 obtain ⟨⟨cls2,dd2,data2,sl2⟩,ho2,hc2,n2,hd2⟩:=id hb
 simp only at hc hd hc2 hd2
 subst hc hd hc2 hd2
 have e:vs.toArray++ws.toArray=(vs++ws).toArray:=by simp
 by_cases hw:ws=[]
 . exact concat_meets ⟨_,ho,rfl⟩ ⟨_,ho2,rfl⟩ noFill_tuple_add seq_tuple_add PySem.F.slot_tuple_add PySem.F.entry_tuple_add (PySem.F.args_tuple_add_2 _ _)
     (tuple_addW1 t b vs.toArray ws.toArray n n2 dd dd2 sl sl2 (by simpa using hv) (by simp [hw])) ⟨ho,ho2,h1 hw⟩
 . refine concat_meets ⟨_,ho,rfl⟩ ⟨_,ho2,rfl⟩ noFill_tuple_add seq_tuple_add PySem.F.slot_tuple_add PySem.F.entry_tuple_add (PySem.F.args_tuple_add_2 _ _)
     (tuple_addW2 t b vs.toArray ws.toArray n n2 dd dd2 sl sl2 (by simpa using hv) (by simpa using hw) (by rw [List.size_toArray,List.size_toArray]; exact hsz)) ⟨ho,ho2,?_⟩
   rw [e]
   exact h2 hw
def fX (n d:Nat):Option Int->Nat
 | none=>d
 | some v=>if v<0 then (v+(n:Int)).toNat else min v.toNat n
theorem jz (n d:Nat):fX n d none=d:=rfl
theorem iJ (n d k:Nat):fX n d (some (k:Int))=min k n:=by
 show (if (k:Int)<0 then ((k:Int)+(n:Int)).toNat else min (k:Int).toNat n)=min k n
 rw [if_neg (by omega),Int.toNat_natCast]
theorem Xj (n d:Nat) (hd:d<=n) (o:Option Int):fX n d o<=n:=by
 cases o with
 | none=>exact hd
 | some v =>
   show (if v<0 then (v+(n:Int)).toNat else min v.toNat n)<=n
   by_cases hv:v<0
   . rw [if_pos hv]; omega
   . rw [if_neg hv]; exact Nat.min_le_right _ _
theorem Hw (v:Int) (n d:Nat):(if v<0 then max (v+(n:Int)) 0 else min v (n:Int))=((fX n d (some v):Nat):Int):=by
 show (if v<0 then max (v+(n:Int)) 0 else min v (n:Int))=(((if v<0 then (v+(n:Int)).toNat else min v.toNat n):Nat):Int)
 by_cases hv:v<0
 . simp only [if_pos hv]; omega
 . simp only [if_neg hv]; omega
theorem Ej (lo hi:Option Int) (n:Nat):Builtin.Slice.sliceAdjust lo hi 1 (n:Int)=(((fX n 0 lo:Nat):Int),((fX n n hi:Nat):Int)):=by
 have h1:¬ ((1:Int)<0):=by omega
 unfold Builtin.Slice.sliceAdjust
 simp only [h1,if_false]
 refine Prod.ext ?_ ?_
 . cases lo with
   | none=>rfl
   | some v=>exact Hw v n 0
 . cases hi with
   | none=>rfl
   | some v=>exact Hw v n n
theorem Ek (i j:Nat):Builtin.Slice.slicePlaces (i:Int) (j:Int) 1=j-i:=by
 unfold Builtin.Slice.slicePlaces
 have h1:(1:Int) > 0:=by omega
 simp only [h1,if_true,Int.ediv_one]
 split <;> omega
theorem jR {v:Value} {o:Option Int} {Q:Option Int->Shared->Prop} (p:IsPart v o) (h:Q o s):wpAny (model prog w) A (Builtin.Slice.slicePartIndex v) Q E s:=by
 cases p with
 | none=>exact slicePart_none h
 | int i t=>exact slicePart_int h
theorem lE {sl:Addr} {vl vu:Value} {lo hi:Option Int} {n:Nat} {Q:Int × Int × Nat->Shared->Prop} (hs:s.heap.IsSliceOf sl vl vu .none) (pl:IsPart vl lo) (pu:IsPart vu hi)
   (h:Q (((fX n 0 lo:Nat):Int),1,fX n n hi-fX n 0 lo) s):wpAny (model prog w) A (Builtin.Slice.sliceApplied (.ref sl) (pure (n:Int))) Q E s:=by
 obtain ⟨os,hos,hcs,hds⟩:=id hs
 unfold Builtin.Slice.sliceApplied Builtin.Slice.sliceFields
 refine wpAny_bind (wpAny_bind (wpAny_field hos hds (x:=vl) rfl (wpAny_bind (wpAny_field hos hds (x:=vu) rfl (wpAny_bind (wpAny_field hos hds (x:=.none) rfl (wpAny_pure ?_)))))))
 refine wpAny_bind (slicePart_none ?_)
 show wpAny _ _ (if ((1:Int) == 0)=true then _ else _) _ _ s
 rw [if_neg (by decide)]
 refine wpAny_bind (jR pl (wpAny_bind (jR pu (wpAny_bind (wpAny_pure ?_)))))
 show wpAny _ _ (match Builtin.Slice.sliceAdjust lo hi 1 (n:Int) with | (lo,hi)=>pure (lo,(1:Int),Builtin.Slice.slicePlaces lo hi 1)) _ _ s
 rw [Ej lo hi n]
 show wpAny _ _ (pure (((fX n 0 lo:Nat):Int),(1:Int),Builtin.Slice.slicePlaces ((fX n 0 lo:Nat):Int) ((fX n n hi:Nat):Int) 1)) _ _ s
 rw [Ek]
 exact wpAny_pure h
theorem Nb (xs:Array Value) (i k:Nat):((List.range k).filterMap fun (m:Nat)=>xs[((i:Int)+(m:Int) * 1).toNat]?).toArray=((xs.toList.drop i).take k).toArray:=by
 have e:(fun (m:Nat)=>xs[((i:Int)+(m:Int) * 1).toNat]?)=fun m=>xs[i+m]?:=by
   funext m
   have:((i:Int)+(m:Int) * 1).toNat=i+m:=by omega
   rw [this]
 rw [e]
 have:=pick_run xs i k
 rw [List.filterMap_map] at this
 have e2:((fun x=>xs[x]?)∘fun x=>i+x)=fun m=>xs[i+m]?:=rfl
 rw [e2] at this
 rw [this]
theorem qI {t sl:Addr} {items:Array Value} {vl vu:Value} {lo hi:Option Int} {Q:Value->Shared->Prop} (ht:IsTup s.heap t items) (hs:s.heap.IsSliceOf sl vl vu .none) (pl:IsPart vl lo) (pu:IsPart vu hi)
   (hw:¬ (fX items.size 0 lo=0/\fX items.size items.size hi=items.size))
   (h:Q (.ref s.heap.objs.size) { s with heap:=s.heap.push { cls:=.type "tuple",data:=.seq ((items.toList.drop (fX items.size 0 lo)).take (fX items.size items.size hi-fX items.size 0 lo)).toArray } })
   (hsz:items.size<=sizeLine):wpAny (model prog w) A (getItem (.ref t) (.ref sl)) Q E s:=by
 have Hy:sizeOk (.seq ((items.toList.drop (fX items.size 0 lo)).take (fX items.size items.size hi-fX items.size 0 lo)).toArray):=by
   show ((items.toList.drop (fX items.size 0 lo)).take (fX items.size items.size hi-fX items.size 0 lo)).toArray.size<=sizeLine
   rw [List.size_toArray,List.length_take,List.length_drop,Array.length_toList]
   omega
 have hj:fX items.size items.size hi<=items.size:=Xj _ _ (Nat.le_refl _) hi
 obtain ⟨os,hos,hcs,hds⟩:=id hs
 have hTs:s.TypeIs (.ref sl) "slice":=⟨os,hos,hcs⟩
 unfold getItem
 try with_reducible refine wpAny_holding ?_
 first | refine wpAny_bind (wpAny_pure ?_) | skip
 refine wpAny_bind (wpAny_sequenceKey ht.typeIs (by decide) ?_)
 refine wpAny_bind (wpAny_callSpecial?_slot (name:=Str.ofString "__getitem__") ht.typeIs PyProof.Rows.slot_tuple_getitem
   (wpAny_call_entry PyProof.Rows.slot_tuple_getitem ht.typeIs entry_tuple_getitem ?_ (args_tuple_getitem _ _)))
 show wpAny _ _ (Builtin.Tuple.tupleItemsOf (.ref t) >>= _) _ _ s
 refine wpAny_bind (tupleItemsOf_ ht ?_)
 refine wpAny_bind (wpAny_typeOf hTs ?_)
 rw [if_pos (by decide)]
 refine wpAny_bind (lE hs pl pu ?_)
 have hno:¬ ((((fX items.size 0 lo:Nat):Int) == 0 && (1:Int) == 1 && (fX items.size items.size hi-fX items.size 0 lo) == items.size)=true):=by
   intro q
   rw [Bool.and_eq_true,Bool.and_eq_true] at q
   have q1:((fX items.size 0 lo:Nat):Int)=0:=eq_of_beq q.1.1
   have q2:fX items.size items.size hi-fX items.size 0 lo=items.size:=eq_of_beq q.2
   exact hw ⟨by omega,by omega⟩
 show wpAny _ _ (if (((fX items.size 0 lo:Nat):Int) == 0 && (1:Int) == 1 && (fX items.size items.size hi-fX items.size 0 lo) == items.size)=true then _ else _) _ _ s
 rw [if_neg hno,Nb]
 first
   | exact wpAny_bind (m:=Builtin.Tuple.tupleExact _) (wpAny_newObj_type (wpAny_pure ⟨_,rfl,wpAny_pure h⟩) Hy)
   | exact wpAny_bind (m:=Builtin.Tuple.tupleExact _) (wpAny_newObj_type (wpAny_bind (wpAny_pure (wpAny_pure ⟨_,rfl,wpAny_pure h⟩))) Hy)
   | exact wpAny_bind (wpAny_bind (m:=Builtin.Tuple.tupleExact _) (wpAny_newObj_type (wpAny_pure (wpAny_pure ⟨_,rfl,wpAny_pure h⟩)) Hy))
   | exact wpAny_bind (wpAny_bind (m:=Builtin.Tuple.tupleExact _) (wpAny_newObj_type (wpAny_pure ⟨_,rfl,wpAny_pure h⟩) Hy))
end
end HT
namespace L2
open PySem PySem.Spec PyProof.Rows
abbrev TO:=St->Hp->(Option Int->Hp->Prop)->Prop
def PO (X:Cx) (e:Option Expr) (t:TO):Prop :=
 ∀ (pins:List (Addr × Obj)) (s:Shared) (σ:St) (H:Hp) (Q:Option Int->Hp->Prop),Inv X pins σ H s->t σ H Q ->
   wpAny (model X.prog X.w) X.A (evalPart e X.env) (fun u s'=>∃ o H',Inv X pins σ H' s'/\IsPart u o/\Q o H') X.xe s
def oZ:TO:=fun _ H Q=>Q none H
section
variable {X:Cx} {e:Expr} {te:TE} {lo hi:Option Expr} {tl th:TO} {pos p2:Pos}
theorem mG:PO X none oZ:=by
 intro pins s σ H Q I h
 rw [evalPart_none]
 exact wpAny_pure ⟨none,H,I,.none,h⟩
def Xk (X:Cx) (r:V->Option Int->Option Int->Hp->VK->Prop):Prop :=
 ∀ (pins:List (Addr × Obj)) (s:Shared) (σ:St) (H:Hp) (x:V) (v vl vu:Value) (lo hi:Option Int) (sl:Addr) (Q:VK),Inv X pins σ H s->RelV x v->s.heap.IsSliceOf sl vl vu .none->IsPart vl lo->IsPart vu hi->r x lo hi H Q ->
   ∃ T id,typeLookup (.type T) "__getitem__" = pure (some (.builtin id))/\s.TypeIs v T/\wpAny (model X.prog X.w) X.A (getItem v (.ref sl)) (EP X pins σ Q) X.xe s
def Z6 (r:V->Option Int->Option Int->Hp->VK->Prop) (te:TE) (tl th:TO):TE:=fun σ H Q=>te σ H fun x H1=>tl σ H1 fun l H2=>th σ H2 fun u H3=>r x l u H3 Q
theorem gR {r:V->Option Int->Option Int->Hp->VK->Prop} (hr:Xk X r) (he:PE X e te) (hl:PO X lo tl) (hu:PO X hi th):PE X (.Subscript e (.Slice lo hi none p2) pos) (Z6 r te tl th):=by
 intro pins s σ H Q I h
 refine Subscript_ (eE (he pins s σ H _ I h) fun v s1 ⟨x,H1,I1,r1,q1⟩=>?_)
 refine wpAny_Slice (eE (hl pins s1 σ H1 _ I1 q1) fun vl s2 ⟨l,H2,I2,pl,q2⟩=>eE (hu pins s2 σ H2 _ I2 q2) fun vu s3 ⟨u,H3,I3,pu,q3⟩=>?_)
 rw [evalPart_none]
 refine wpAny_pure ?_
 have I4:Inv X pins σ H3 { s3 with heap:=s3.heap.push { cls:=.type "slice",data:=.fields #[vl,vu,.none] } }:=I3.kept (t':=s3.toks) fun b ob q=>Heap.get?_push_of_some _ q
 obtain ⟨T,id,hT,ht,hg⟩:=hr pins { s3 with heap:=s3.heap.push { cls:=.type "slice",data:=.fields #[vl,vu,.none] } } σ H3 x v vl vu l u s3.heap.objs.size Q I4 r1 (Heap.IsSliceOf.new ..) pl pu q3
 show wpAny (model X.prog X.w) X.A (subscriptTail e (.Slice lo hi none p2) v (.ref s3.heap.objs.size)) (EP X pins σ Q) X.xe { s3 with heap:=s3.heap.push { cls:=.type "slice",data:=.fields #[vl,vu,.none] } }
 exact tail_any (ops:=[.ref s3.heap.objs.size,v]) ht hT hg (by with_unfolding_all rfl)
def nQ (xs:List V) (lo hi:Option Int):List V:=(xs.drop (HT.fX xs.length 0 lo)).take (HT.fX xs.length xs.length hi-HT.fX xs.length 0 lo)
theorem nT (xs:List V) (lo hi:Option Int):(nQ xs lo hi).length<=xs.length:=by
 unfold nQ
 rw [List.length_take,List.length_drop]
 omega
def ael (K:PySem.W.Frag):V->Option Int->Option Int->Hp->VK->Prop:=fun x lo hi H Q=>∃ a xs,x=.ref a/\bM K H a xs /\
 ¬ (HT.fX xs.length 0 lo=0/\HT.fX xs.length xs.length hi=xs.length)/\∀ p,H p=none->Q (.ref p) (upd H p (.tup (nQ xs lo hi)))
theorem Xl:Xk X (ael X.K):=by
 intro pins s σ H x v vl vu lo hi sl Q I rx hs pl pu h
 obtain ⟨a,xs,rfl,hx,hw,q⟩:=h
 cases rx
 obtain ⟨its,r,ht,hz⟩:=I.tuple hx
 have hlen:its.toArray.size=xs.length:=by rw [List.size_toArray]; exact r.length.symm
 refine ⟨"tuple",_,PyProof.Rows.slot_tuple_getitem.lookup,ht.typeIs,?_⟩
 refine HT.qI ht hs pl pu (by rw [hlen]; exact hw) ?_ (by rw [hlen]; exact hz)
 rw [hlen]
 refine ⟨.ref s.heap.objs.size,_,I.laid (t':=s.toks) (o:=.tup (nQ xs lo hi)) (fun b ob q=>Heap.get?_push_of_some _ q) (Nat.le_refl _) ?_,rfl,q _ (I.hok.fresh (Nat.le_refl _))⟩
 exact ⟨Nat.le_trans (nT xs lo hi) hz,_,(r.drop (HT.fX xs.length 0 lo)).take (HT.fX xs.length xs.length hi-HT.fX xs.length 0 lo),mC.new _ _⟩
def aaU (K:PySem.W.Frag):R2:=fun x y H Q=>∃ a b xs ys,x=.ref a/\y=.ref b/\bM K H a xs/\bM K H b ys/\xs≠[]/\xs.length+ys.length<=sizeLine /\
 (ys=[]->Q (.ref a) H)/\(ys≠[]->∀ p,H p=none->Q (.ref p) (upd H p (.tup (xs++ys))))
theorem Vals.j8 {xs:List V} {us:List Value} (r:Vals xs us):us=[]↔xs=[]:=by
 cases r with
 | nil=>simp
 | cons _ _=>simp
theorem R3:iD X (binaryOp .Add) (aaU X.K):=by
 intro pins s σ H x y v u Q I rx ry h
 obtain ⟨a,b,xs,ys,rfl,rfl,ha,hb,hx,hz,q1,q2⟩:=h
 cases rx
 cases ry
 obtain ⟨its,r1,p1,_⟩:=I.tuple ha
 obtain ⟨its2,r2,p2,_⟩:=I.tuple hb
 refine HT.R0 p1 p2 (fun z=>hx (r1.j8.mp z)) (fun z=>⟨.ref a,H,I,rfl,q1 (r2.j8.mp z)⟩) (fun z=>?_) (by rw [<- r1.length,<- r2.length]; exact hz)
 refine ⟨.ref s.heap.objs.size,_,I.laid (t':=s.toks) (o:=.tup (xs++ys)) (fun b ob q=>Heap.get?_push_of_some _ q) (Nat.le_refl _) ?_,rfl,q2 (fun w=>z (r2.j8.mpr w)) _ (I.hok.fresh (Nat.le_refl _))⟩
 exact ⟨by rw [List.length_append]; exact hz,_,r1.append r2,mC.new _ _⟩
end
end L2
namespace L2
open PySem PySem.Spec PyProof.Rows
def R4 (n:Nat) (i:Int):Option Nat:=if 0<=i then (if i<n then some i.toNat else none) else if -(n:Int)<=i then some (i+n).toNat else none
def yH {α:Type} (xs:List α) (i:Int):Option α:=(R4 xs.length i).bind fun j=>xs[j]?
theorem HB {n:Nat} {i:Int} {j:Nat} (h:R4 n i=some j):seqIndex? i n=some j/\j<n/\-(n:Int)<=i/\i<n:=by
 unfold R4 at h
 by_cases h0:0<=i
 . rw [if_pos h0] at h
   by_cases h1:i<n
   . rw [if_pos h1] at h
     have e:i.toNat=j:=Option.some.inj h
     exact ⟨by rw [seqIndex_of h0 h1,e],by omega,by omega,h1⟩
   . rw [if_neg h1] at h; cases h
 . rw [if_neg h0] at h
   by_cases h1:-(n:Int)<=i
   . rw [if_pos h1] at h
     have e:(i+n).toNat=j:=Option.some.inj h
     exact ⟨by rw [seqIndex_neg (by omega) h1,e],by omega,h1,by omega⟩
   . rw [if_neg h1] at h; cases h
theorem yI {α:Type} {xs:List α} {i:Int} {v:α} (h:yH xs i=some v):∃ j,seqIndex? i xs.length=some j/\xs[j]?=some v/\j<xs.length/\-(xs.length:Int)<=i/\i<xs.length:=by
 unfold yH at h
 cases e:R4 xs.length i with
 | none=>rw [e] at h; cases h
 | some j =>
   rw [e] at h
   obtain ⟨h1,h2,h3,h4⟩:=HB e
   exact ⟨j,h1,h,h2,h3,h4⟩
theorem gQ {α:Type} {xs:List α} {j:Nat} {v:α} (h:xs[j]?=some v):yH xs (j:Int)=some v:=by
 have hj:j<xs.length:=(List.getElem?_eq_some_iff.mp h).1
 have e:R4 xs.length (j:Int)=some j:=by
   unfold R4
   rw [if_pos (by omega),if_pos (by omega)]; simp
 unfold yH; rw [e]; exact h
def HD (b:Expr):Prop:=∀ o i,subscripted b false o i=operate [o,i] (getItem o i)
def VH (X:Cx) (r:R2):Prop :=
 ∀ (value slice:Expr) (pins:List (Addr × Obj)) (s:Shared) (σ:St) (H:Hp) (x y:V) (v u:Value) (Q:VK),Inv X pins σ H s->RelV x v->RelV y u->r x y H Q ->
   subscripted slice false v u=operate [v,u] (getItem v u)->wpAny (model X.prog X.w) X.A (subscriptTail value slice v u) (EP X pins σ Q) X.xe s
def MtR (X:Cx) (id:String) (r:V->List V->Hp->VK->Prop):Prop :=
 ∀ (pins:List (Addr × Obj)) (s:Shared) (σ:St) (H:Hp) (x:V) (xs:List V) (v:Value) (us:List Value) (Q:VK),Inv X pins σ H s->RelV x v->Vals xs us->r x xs H Q ->
   wpAny (model X.prog X.w) X.A (call (.builtin id) (v :: us)) (EP X pins σ Q) X.xe s
section
variable {X:Cx} {a b:Expr} {ta tb:TE} {pos:Pos}
theorem cP {r:R2} (hr:VH X r) (ha:PE X a ta) (hb:PE X b tb) (hs:HD b):PE X (.Subscript a b pos) (wQ r ta tb):=by
 intro pins s σ H Q I h
 exact Subscript_ (W9 ha hb I h fun v u s2 x y H2 I2 rx ry q=>hr a b pins s2 σ H2 x y v u Q I2 rx ry q (hs _ _))
def aaV (K:PySem.W.Frag):R2:=fun x y H Q=>∃ p xs i v,x=.ref p/\y=.int i/\dg K H p xs/\yH xs i=some v/\Q v H
def aaW (K:PySem.W.Frag):R2:=fun x y H Q=>∃ p xs i v,x=.ref p/\y=.int i/\bM K H p xs/\yH xs i=some v/\Q v H
def aaX:R2:=fun x y H Q=>∃ z i c,x=.str z/\y=.int i/\z.length<=sizeLine/\yH z.cps.toList i=some c/\Q (.str ⟨#[c]⟩) H
theorem R5:VH X (aaV X.K):=by
 intro value slice pins s σ H x y v u Q I rx ry h hs
 obtain ⟨p,xs,i,z,rfl,rfl,hq,he,q⟩:=h
 cases rx
 obtain ⟨t,rfl⟩:=ry
 obtain ⟨its,r,pl,hz⟩:=I.list hq
 obtain ⟨j,h1,h2,h3,h4,h5⟩:=yI he
 obtain ⟨w,ew,Nf⟩:=r.get h2
 have hl:=r.length
 have hn:=rJ
 have fin:EP X pins σ Q w s:=⟨z,H,I,Nf,q⟩
 by_cases h0:0<=i
 . have hj:i.toNat=j:=by
     rw [seqIndex_of h0 h5] at h1
     exact Option.some.inj h1
   exact item_listR pl.isList h0 (by omega) (by rw [hj]; simpa using ew) fin hs
 . have hj:(i+(its.toArray.size:Int)).toNat=j:=by
     rw [seqIndex_neg (by omega) h4] at h1
     rw [List.size_toArray,<- hl]
     exact Option.some.inj h1
   exact subscriptTail_builtinR (x:=w) pl.isList.typeIs slot_list_getitem.lookup
     (wpAny_getItem_list_neg (Q:=fun r s'=>r=w/\EP X pins σ Q r s') pl.isList (by omega) (by rw [List.size_toArray] <;> omega) (by omega) (by rw [hj]; simpa using ew) ⟨rfl,fin⟩) hs
theorem Xm:VH X (aaW X.K):=by
 intro value slice pins s σ H x y v u Q I rx ry h hs
 obtain ⟨p,xs,i,z,rfl,rfl,hq,he,q⟩:=h
 cases rx
 obtain ⟨t,rfl⟩:=ry
 obtain ⟨its,r,pl,hz⟩:=I.tuple hq
 obtain ⟨j,h1,h2,h3,h4,h5⟩:=yI he
 obtain ⟨w,ew,Nf⟩:=r.get h2
 have hl:=r.length
 have hn:=rJ
 have fin:EP X pins σ Q w s:=⟨z,H,I,Nf,q⟩
 exact subscriptTail_builtinR (x:=w) pl.typeIs slot_tuple_getitem.lookup
   (getItem_tuple (j:=j) (Q:=fun r s'=>r=w/\EP X pins σ Q r s') pl (by omega) (by omega) (by rw [List.size_toArray,<- hl]; exact h1) (by simpa using ew) ⟨rfl,fin⟩) hs
theorem Xn:VH X aaX:=by
 intro value slice pins s σ H x y v u Q I rx ry h hs
 obtain ⟨z,i,c,rfl,rfl,hz,he,q⟩:=h
 obtain ⟨t,rfl⟩:=rx
 obtain ⟨t',rfl⟩:=ry
 obtain ⟨j,h1,h2,h3,h4,h5⟩:=yI he
 have hl:z.cps.toList.length=z.length:=by simp [Str.length]
 rw [hl] at h1 h4 h5
 have hn:=rJ
 exact tail_any (typeIs_str s z t) slot_str_getitem.lookup (getItem_str (c:=c) (by
   have e1:decide (i < -(2 ^ 63:Int))=false:=decide_eq_false (by omega)
   have e2:decide (i ≥ 2 ^ 63)=false:=decide_eq_false (by omega)
   rw [e1,e2,Bool.or_false]) (by rw [h1]; simpa using h2) ⟨.str ⟨#[c]⟩,H,I.tok _,⟨_,rfl⟩,q⟩) hs
theorem El (its:List Value) (n j:Nat) (u:Value):Obj.mapSeq (·.setIfInBounds j u) { cls:=.type "list",data:=.seq its.toArray n }={ cls:=.type "list",data:=.seq (its.set j u).toArray n }:=by
 simp [Obj.mapSeq]
theorem Inv.lst {pins:List (Addr × Obj)} {σ:St} {H:Hp} {s:Shared} {p:Addr} {xs:List V} (I:Inv X pins σ H s) (h:H p=some (.lst xs)) :
   ∃ (its:List Value) (n:Nat),Vals xs its/\s.heap.get? p=some { cls:=.type "list",data:=.seq its.toArray n }/\xs.length<=sizeLine:=by
 obtain ⟨z,its,n,r,e⟩:=I.hok p _ h
 exact ⟨its,n,r,e,z⟩
theorem Inv.Xo {pins:List (Addr × Obj)} {σ:St} {H:Hp} {s:Shared} {p:Addr} {xs ys:List V} {its its':List Value} {n n':Nat} {f:Obj->Obj} (I:Inv X pins σ H s) (h:H p=some (.lst xs))
   (ho:s.heap.get? p=some { cls:=.type "list",data:=.seq its.toArray n }) (hf:f { cls:=.type "list",data:=.seq its.toArray n }={ cls:=.type "list",data:=.seq its'.toArray n' }) (r:Vals ys its') (hz:ys.length<=sizeLine) (t:Nat) :
   Inv X pins σ (upd H p (.lst ys)) { s with heap:=s.heap.update p f,toks:=t }:=by
 have e:(s.heap.update p f).get? p=some { cls:=.type "list",data:=.seq its'.toArray n' }:=by
   rw [Heap.get?_update_self f ho (by rw [hf] <;> rfl),hf]
 refine I.write (x:=p) (e:=p) (by rw [h]; trivial) (.inl rfl) (fun b u hb q=>(Heap.get?_update_other _ _ (Ne.symm hb)).trans q) ⟨_,e⟩ ?_
 exact ⟨hz,its',n',r,e⟩
def VJ:V->V->V->Hp->(Hp->Prop)->Prop:=fun o i v H Q=>∃ p xs k j,o=.ref p/\i=.int k/\H p=some (.lst xs)/\R4 xs.length k=some j/\Q (upd H p (.lst (xs.set j v)))
theorem set_list:W0 X VJ:=by
 intro pins s σ H o i v ov iv u Q I ro ri rv h
 obtain ⟨p,xs,k,j,rfl,rfl,hp,hj,q⟩:=h
 cases ro
 obtain ⟨t,rfl⟩:=ri
 obtain ⟨its,n,r,ho,hz⟩:=I.lst hp
 obtain ⟨h1,h2,h3,h4⟩:=HB hj
 have hl:=r.length
 have hn:=rJ
 have I':Inv X pins σ (upd H p (.lst (xs.set j v))) { s with heap:=s.heap.update p (Obj.mapSeq (·.setIfInBounds j u)) } :=
   I.Xo hp ho (El its n j u) (r.set rv j) (by rw [List.length_set]; exact hz) s.toks
 by_cases h0:0<=k
 . have hk:k.toNat=j:=by
     rw [seqIndex_of h0 h4] at h1
     exact Option.some.inj h1
   exact PySem.W.ki_setAt ho h0 (by omega) (by rw [List.size_toArray,<- hl]; exact h4) (by rw [hk]; exact ⟨_,I',q⟩)
 . have hk:(k+(its.toArray.size:Int)).toNat=j:=by
     rw [seqIndex_neg (by omega) h3] at h1
     rw [List.size_toArray,<- hl]
     exact Option.some.inj h1
   exact PySem.W.ki_setBack ho (by omega) (by rw [List.size_toArray,<- hl]; exact h3) (by omega) (by rw [hk]; exact ⟨_,I',q⟩)
theorem yJ (lo hi:Option Int) (n:Nat):(sliceBounds lo hi none n).1=((HT.fX n 0 lo:Nat):Int)/\(sliceBounds lo hi none n).2.1=((HT.fX n n hi:Nat):Int)/\(sliceBounds lo hi none n).2.2=1:=by
 refine ⟨?_,?_,rfl⟩
 . cases lo with
   | none=>simp [sliceBounds,HT.fX]
   | some i =>
     simp only [sliceBounds,HT.fX,Option.getD_none,show (1:Int) > 0 by decide,if_true]
     by_cases h:i<0
     . simp only [h,if_true] <;> omega
     . simp only [h,if_false] <;> omega
 . cases hi with
   | none=>simp [sliceBounds,HT.fX]
   | some i =>
     simp only [sliceBounds,HT.fX,Option.getD_none,show (1:Int) > 0 by decide,if_true]
     by_cases h:i<0
     . simp only [h,if_true] <;> omega
     . simp only [h,if_false] <;> omega
theorem wK (its:List Value) (lo hi:Option Int):slicePick its.toArray lo hi none=((its.drop (HT.fX its.length 0 lo)).take (HT.fX its.length its.length hi-HT.fX its.length 0 lo)).toArray:=by
 obtain ⟨h1,h2,h3⟩:=yJ lo hi its.toArray.size
 unfold slicePick
 rw [h1,h2,h3]
 simp only [sliceRange_one,pick_run,List.size_toArray] <;> rfl
def aem (K:PySem.W.Frag):V->Option Int->Option Int->Hp->VK->Prop:=fun x lo hi H Q=>∃ a xs,x=.ref a/\dg K H a xs/\∀ p,H p=none->Q (.ref p) (upd H p (.lst (nQ xs lo hi)))
theorem yK:Xk X (aem X.K):=by
 intro pins s σ H x v vl vu lo hi sl Q I rx hs pl pu h
 obtain ⟨a,xs,rfl,hx,q⟩:=h
 cases rx
 obtain ⟨its,r,ht,hz⟩:=I.list hx
 have hlen:=r.length
 refine ⟨"list",_,slot_list_getitem.lookup,ht.isList.typeIs,?_⟩
 refine wpAny_getItem_list_slice ht.isList hs pl pu .none (by simp) ?_ (by rw [List.size_toArray] <;> omega)
 rw [wK,<- hlen]
 refine ⟨.ref s.heap.objs.size,_,I.laid (t':=s.toks) (o:=.lst (nQ xs lo hi)) (fun b ob q=>Heap.get?_push_of_some _ q) (Nat.le_refl _) ?_,rfl,q _ (I.hok.fresh (Nat.le_refl _))⟩
 exact ⟨Nat.le_trans (nT xs lo hi) hz,_,0,(r.drop (HT.fX xs.length 0 lo)).take (HT.fX xs.length xs.length hi-HT.fX xs.length 0 lo),Heap.get?_push_size _ rfl⟩
theorem bT:gC X (.builtin "len") (fun xs H Q=>∃ p ys,xs=[.ref p]/\(dg X.K H p ys∨bM X.K H p ys)/\Q (.int ys.length) H):=by
 intro pins s σ H xs us Q I r h
 obtain ⟨p,ys,rfl,hq,q⟩:=h
 obtain ⟨u,rfl,rx⟩:=vals1 r
 cases rx
 have hn:=rJ
 rcases hq with hq | hq
 . obtain ⟨its,r',pl,hz⟩:=I.list hq
   have hlen:=r'.length
   exact Calls.call_len_list pl.isList (by simp only [List.size_toArray] <;> omega) ⟨.int ys.length,H,I.tok _,⟨s.toks+1,by rw [List.size_toArray,hlen]⟩,q⟩
 . obtain ⟨its,r',pl,hz⟩:=I.tuple hq
   have hlen:=r'.length
   exact len_tuple pl (by simp only [List.size_toArray] <;> omega) ⟨.int ys.length,H,I.tok _,⟨s.toks+1,by rw [List.size_toArray,hlen]⟩,q⟩
theorem yL:gC X (.builtin "len") (fun xs H Q=>∃ z,xs=[.str z]/\z.length<=sizeLine/\Q (.int z.length) H):=by
 intro pins s σ H xs us Q I r h
 obtain ⟨z,rfl,hz,q⟩:=h
 obtain ⟨u,rfl,t,rfl⟩:=vals1 r
 have hn:=rJ
 exact len_str (by omega) ⟨.int z.length,H,I.tok _,⟨_,rfl⟩,q⟩
theorem yM:gC X (.type "list") (fun xs H Q=>∃ p ys,xs=[.ref p]/\(dg X.K H p ys∨bM X.K H p ys)/\∀ l,H l=none->Q (.ref l) (upd H l (.lst ys))):=by
 intro pins s σ H xs us Q I r h
 obtain ⟨p,ys,rfl,hq,q⟩:=h
 obtain ⟨u,rfl,rx⟩:=vals1 r
 cases rx
 have fin:∀ (its:List Value),Vals ys its->ys.length<=sizeLine->∀ (h':Heap) (c':Nat),(∀ b o',s.heap.get? b=some o'->h'.get? b=some o') ->
     h'.get? s.heap.objs.size=some { cls:=.type "list",dict:=none,data:=.seq its.toArray c',slots:=#[] }->EP X pins σ Q (.ref s.heap.objs.size) { s with heap:=h' }:=fun its r' hz h' c' kp e =>
   ⟨.ref s.heap.objs.size,_,I.laid (t':=s.toks) kp (Nat.le_refl _) (show dR X.prog X.w _ h' _ (.lst ys) from ⟨hz,its,c',r',e⟩),rfl,q _ (I.hok.fresh (Nat.le_refl _))⟩
 rcases hq with hq | hq
 . obtain ⟨its,r',pl,hz⟩:=I.list hq
   have hlen:=r'.length
   obtain ⟨o,ho,hc,n,hd⟩:=pl.isList
   exact call_list_seq p (.inl rfl) ho hc hd (fun h' c' kp e=>fin its r' hz h' c' kp e) (by simp only [List.size_toArray] <;> omega)
 . obtain ⟨its,r',pl,hz⟩:=I.tuple hq
   have hlen:=r'.length
   obtain ⟨o,ho,hc,n,hd⟩:=pl
   exact call_list_seq p (.inr rfl) ho hc hd (fun h' c' kp e=>fin its r' hz h' c' kp e) (by simp only [List.size_toArray] <;> omega)
theorem bY:gC X (.type "tuple") (fun xs H Q=>∃ p ys,xs=[.ref p]/\((dg X.K H p ys/\∀ l,H l=none->Q (.ref l) (upd H l (.tup ys)))∨(bM X.K H p ys/\Q (.ref p) H))):=by
 intro pins s σ H xs us Q I r h
 obtain ⟨p,ys,rfl,h⟩:=h
 obtain ⟨u,rfl,rx⟩:=vals1 r
 cases rx
 rcases h with ⟨hq,q⟩ | ⟨hq,q⟩
 . obtain ⟨its,r',pl,hz⟩:=I.list hq
   have hlen:=r'.length
   refine call_tuple_list pl.isList (fun h' kp=>?_) (by simp only [List.size_toArray] <;> omega)
   have I1:Inv X pins σ H { s with heap:=h' }:=I.kept (t':=s.toks) kp
   have I2:Inv X pins σ (upd H h'.objs.size (.tup ys)) { s with heap:=h'.push { cls:=.type "tuple",data:=.seq its.toArray } } :=
     I1.laid (t':=s.toks) (fun b o e=>Heap.get?_push_of_some _ e) (Nat.le_refl _) (show dR X.prog X.w _ _ _ (.tup ys) from ⟨hz,its,r',mC.new _ _⟩)
   exact ⟨.ref h'.objs.size,_,I2,rfl,q _ (I1.hok.fresh (Nat.le_refl _))⟩
 . obtain ⟨its,r',pl,hz⟩:=I.tuple hq
   exact call_tuple_same pl ⟨.ref p,H,I,rfl,q⟩
def tyV (K:PySem.W.Frag) (T:String) (x:V) (H:Hp):Prop:=match x with
 | .str _=>T = "str"
 | .int _=>T = "int"
 | .ref p=>(T = "list"/\∃ xs,dg K H p xs)∨(T = "tuple"/\∃ o,K.lookup p=some o/\o.cls=.type "tuple"/\o.dict=none) ∨
     (T = "dict"/\((∃ kvs,H p=some (.dK kvs))∨∃ kvs,H p=some (.dT kvs)))∨(T = "set"/\∃ S n,H p=some (.set S n))
 | _=>False
theorem Ng {pins:List (Addr × Obj)} {σ:St} {H:Hp} {s:Shared} {T:String} {x:V} {v:Value} (I:Inv X pins σ H s) (r:RelV x v) (ty:tyV X.K T x H) :
   s.TypeIs v T/\∀ a,v=.ref a->∃ ob,s.heap.get? a=some ob/\ob.dict=none:=by
 cases x with
 | str z =>
   obtain ⟨t,rfl⟩:=r
   cases (show T = "str" from ty)
   exact ⟨typeIs_str s z t,fun _ e=>nomatch e⟩
 | int i =>
   obtain ⟨t,rfl⟩:=r
   cases (show T = "int" from ty)
   exact ⟨typeIs_int s i t,fun _ e=>nomatch e⟩
 | ref p =>
   cases r
   rcases ty with ⟨rfl,xs,hq⟩ | ⟨rfl,o,hk,hc,hd⟩ | ⟨rfl,hk⟩ | ⟨rfl,S,n,hk⟩
   . obtain ⟨its,_,pl,_⟩:=I.list hq
     refine ⟨pl.isList.typeIs,fun a e=>?_⟩
     cases e
     obtain ⟨o,n,e,c,hd,_⟩:=pl
     exact ⟨o,e,hd⟩
   . refine ⟨⟨o,I.Av p o hk,hc⟩,fun a e=>?_⟩
     cases e
     exact ⟨o,I.Av _ o hk,hd⟩
   . have z:∃ o,s.heap.get? p=some o/\o.ExactDict:=by
       rcases hk with ⟨kvs,hk⟩ | ⟨kvs,hk⟩
       . obtain ⟨_,_,_,_,o,_,_,e,ex,_⟩:=I.hok p _ hk
         exact ⟨o,e,ex⟩
       . obtain ⟨_,_,_,_,o,_,_,e,ex,_⟩:=I.hok p _ hk
         exact ⟨o,e,ex⟩
     obtain ⟨o,e,ex⟩:=z
     refine ⟨⟨o,e,ex.1⟩,fun a e2=>?_⟩
     cases e2
     exact ⟨o,e,ex.2.1⟩
   . obtain ⟨o,_,_,_,e,ex,_⟩:=I.hok p _ hk
     refine ⟨⟨o,e,ex.1⟩,fun a e2=>?_⟩
     cases e2
     exact ⟨o,e,ex.2.1⟩
 | _=>exact False.elim ty
def Xp (K:PySem.W.Frag) (T:String) (r:V->List V->Hp->VK->Prop) (to:TE):TE:=fun σ H Q=>to σ H fun x H1=>tyV K T x H1/\r x [] H1 Q
def JQ (K:PySem.W.Frag) (T:String) (r:V->List V->Hp->VK->Prop) (to:TE) (t:TA):TE:=fun σ H Q=>to σ H fun x H1=>tyV K T x H1/\t σ H1 fun xs H2=>r x xs H2 Q
variable {o e:Expr} {es:List Expr} {to:TE} {t:TA} {name:Str} {apos cpos:Pos} {T id:String} {r:V->List V->Hp->VK->Prop}
theorem Xq (pa:PlainAttrs T) (slot:Slot T name id) (hty:typeOf (.builtin id)=pure (.type "method_descriptor")) (hm:MtR X id r) (ho:PE X o to)
   (hbase:attributeBase o name X.env (eval o X.env)=eval o X.env:=by rfl) (hline:(apos.endLine == cpos.line)=true:=by rfl):PE X (.Call (.Attribute o name apos) [] [] cpos) (Xp X.K T r to):=by
 intro pins s σ H Q I h
 refine wpAny_Call_method0_late hbase hline (eE (ho pins s σ H _ I h) fun v s1 ⟨x,H1,I1,r1,ty,q1⟩=>?_)
 obtain ⟨h1,h2⟩:=Ng I1 r1 ty
 exact ⟨T,id,pa,slot,hty,h1,h2,Calls.callWith_builtin rfl (PySem.evalArgs_none (hm pins s1 σ H1 x [] v [] Q I1 r1 .nil q1))⟩
theorem j9 (pa:PlainAttrs T) (slot:Slot T name id) (hty:typeOf (.builtin id)=pure (.type "method_descriptor")) (hm:MtR X id r) (ho:PE X o to) (ha:PA X (e :: es) t)
   (hbase:attributeBase o name X.env (eval o X.env)=eval o X.env:=by rfl)
   (hfew:((backTo cpos (starEach (e :: es) X.env)).all (fun x=>!x.1) && (backToKw cpos (keywordEach [] X.env)).all (fun x=>x.1.isSome)
     && decide ((e :: es).length+([]:List Keyword).length+(if ([]:List Keyword).isEmpty then 0 else 1)<30))=true:=by rfl)
   (hline:(apos.endLine == cpos.line)=true:=by rfl) (hs:starEach (e :: es) X.env=(false,eval e X.env) :: starEach es X.env:=by rfl) (hplain:(backTo cpos (starEach es X.env)).any (·.1)=false:=by rfl) :
   PE X (.Call (.Attribute o name apos) (e :: es) [] cpos) (JQ X.K T r to t):=by
 intro pins s σ H Q I h
 refine wpAny_Call_method_late hbase hfew hline rfl (eE (ho pins s σ H _ I h) fun v s1 ⟨x,H1,I1,r1,ty,q1⟩=>?_)
 obtain ⟨h1,h2⟩:=Ng I1 r1 ty
 refine ⟨T,id,pa,slot,hty,h1,h2,?_⟩
 have hA:=ha cpos pins s1 σ H1 _ I1 q1
 rw [hs] at hA ⊢
 refine Calls.callWith_builtin (by show (false || (backTo cpos (starEach es X.env)).any (·.1))=false; rw [hplain] <;> rfl) (Calls.evalArgs_plain ?_)
 exact eE hA fun us s2 ⟨vs,H2,I2,r2,q2⟩=>hm pins s2 σ H2 x vs v us Q I2 r1 r2 q2
end
end L2
namespace L2
open PySem PySem.Spec PyProof.Rows
def MtM (X:Cx) (id:String) (r:V->List V->Hp->VK->Prop):Prop :=
 ∀ (pins:List (Addr × Obj)) (s:Shared) (σ:St) (H:Hp) (x:V) (xs:List V) (v:Value) (us:List Value) (Q:VK),Inv X pins σ H s->RelV x v->Vals xs us->r x xs H Q ->
   wpAny (model X.prog X.w) X.A (call (.builtin id) (v :: us)) (EP X pins σ Q) X.xe s
theorem Vals.one:∀ {x:V} {us:List Value},Vals [x] us->∃ u,us=[u]/\RelV x u
 | _,_,.cons r .nil=>⟨_,rfl,r⟩
section
variable {X:Cx} {pins:List (Addr × Obj)} {σ:St} {H:Hp} {s:Shared} {l b:Addr} {xs ys zs:List V}
theorem Inv.aaY {its its':List Value} {n:Nat} {f:Array Value->Array Value} {t':Nat} (I:Inv X pins σ H s) (hH:H l=some (.lst xs))
   (e:s.heap.get? l=some { cls:=.type "list",data:=.seq its.toArray n }) (hf:f its.toArray=its'.toArray) (hv:Vals ys its') (hz:ys.length<=sizeLine) :
   Inv X pins σ (upd H l (.lst ys)) { s with heap:=s.heap.update l (Obj.mapSeq f),toks:=t' }:=by
 have q:=PySem.IsL.update e f
 rw [hf] at q
 refine I.write (x:=l) (e:=l) (by rw [hH]; exact trivial) (.inl rfl) (fun b' u hb hu=>(Heap.get?_update_other s.heap (Obj.mapSeq f) (Ne.symm hb)).trans hu) ⟨_,q⟩ ?_
 exact ⟨hz,its',_,hv,q⟩
theorem Inv.Xr {its:List Value} {t':Nat} (I:Inv X pins σ H s) (hv:Vals ys its) (hz:ys.length<=sizeLine) :
   Inv X pins σ (upd H s.heap.objs.size (.lst ys)) { s with heap:=s.heap.push { cls:=.type "list",data:=.seq its.toArray },toks:=t' } :=
 I.laid (fun _ _ q=>Heap.get?_push_of_some _ q) (Nat.le_refl _) ⟨hz,its,0,hv,Heap.get?_push_size _ rfl⟩
theorem Inv.fresh (I:Inv X pins σ H s):H s.heap.objs.size=none:=I.hok.fresh (Nat.le_refl _)
theorem Inv.JR (I:Inv X pins σ H s) (hH:H l=some (.lst xs)):xs.length<=sizeLine/\∃ (its:List Value) (n:Nat),Vals xs its/\xs.length=its.length/\s.heap.get? l=some { cls:=.type "list",data:=.seq its.toArray n }:=by
 obtain ⟨z,its,n,r,e⟩:=I.hok l _ hH
 exact ⟨z,its,n,r,r.length,e⟩
theorem Nh {n:Nat} (h:n<=sizeLine):Builtin.List.listTooLong n=false:=by
 unfold Builtin.List.listTooLong
 exact decide_eq_false (by omega)
end
section
variable {X:Cx}
def ju:V->List V->Hp->VK->Prop:=fun x vs H Q=>∃ l xs y,x=.ref l/\vs=[y]/\H l=some (.lst xs)/\xs.length<sizeLine/\Q .non (upd H l (.lst (xs++[y])))
theorem dD:MtM X "list.append" ju:=by
 intro pins s σ H x vs v us Q I rx rv h
 obtain ⟨l,xs,y,rfl,rfl,hH,hz,q⟩:=h
 cases rx
 obtain ⟨u,rfl,ru⟩:=rv.one
 obtain ⟨z,its,n,r,hl,e⟩:=I.JR hH
 refine call_meets F.slot_list_append ⟨_,e,rfl⟩ F.entry_list_append (F.args_list_append_2 _ _) (PySem.list_append l its.toArray n u (by rw [List.size_toArray]; omega)) ⟨e,?_⟩
 refine ⟨.non,_,I.aaY (its':=its++[u]) hH e (by simp) (r.append (.cons ru .nil)) ?_,rfl,q⟩
 rw [List.length_append,List.length_singleton]
 omega
def R6:V->List V->Hp->VK->Prop:=fun x vs H Q=>∃ l b xs zs,x=.ref l/\vs=[.ref b]/\H l=some (.lst xs)/\H b=some (.lst zs)/\xs.length+zs.length<=sizeLine/\Q .non (upd H l (.lst (xs++zs)))
theorem JT:MtM X "list.extend" R6:=by
 intro pins s σ H x vs v us Q I rx rv h
 obtain ⟨l,b,xs,zs,rfl,rfl,hH,hB,hz,q⟩:=h
 cases rx
 obtain ⟨u,rfl,ru⟩:=rv.one
 cases ru
 obtain ⟨z,its,n,r,hl,e⟩:=I.JR hH
 obtain ⟨z2,its2,n2,r2,hl2,e2⟩:=I.JR hB
 have hsz:its.toArray.size+its2.toArray.size<=sizeLine:=by rw [List.size_toArray,List.size_toArray]; omega
 have aaZ:¬ (!its.toArray.isEmpty && Builtin.List.listTooLong (its.toArray.size+its2.toArray.size))=true:=by
   rw [Nh hsz,Bool.and_false]
   exact Bool.false_ne_true
 refine call_meets F.slot_list_extend ⟨_,e,rfl⟩ F.entry_list_extend (F.args_list_extend_2 _ _)
   (AutoSeq1.list_extend_list_list_0 l its.toArray n b its2.toArray n2 aaZ (by rw [List.size_toArray]; omega) (by omega)) ⟨e,e2,?_⟩
 refine ⟨.non,_,I.aaY (its':=its++its2) hH e (by simp) (r.append r2) ?_,rfl,q⟩
 rw [List.length_append]
 omega
def R7:R2:=fun x y H Q=>∃ l b xs zs,x=.ref l/\y=.ref b/\H l=some (.lst xs)/\H b=some (.lst zs)/\xs.length+zs.length<=sizeLine/\∀ p,H p=none->Q (.ref p) (upd H p (.lst (xs++zs)))
theorem yN:iD X (binaryOp .Add) R7:=by
 intro pins s σ H x y v u Q I rx ry h
 obtain ⟨l,b,xs,zs,rfl,rfl,hH,hB,hz,q⟩:=h
 cases rx
 cases ry
 obtain ⟨z,its,n,r,hl,e⟩:=I.JR hH
 obtain ⟨z2,its2,n2,r2,hl2,e2⟩:=I.JR hB
 refine PySem.P.add_list e e2 ?_ (by rw [List.size_toArray,List.size_toArray]; omega)
 have ea:its.toArray++its2.toArray=(its++its2).toArray:=by simp
 rw [ea]
 exact ⟨.ref _,_,I.Xr (t':=s.toks) (r.append r2) (by rw [List.length_append]; omega),rfl,q _ I.fresh⟩
end
section
variable {prog:Program} {w:World} {A:Around} {E:Value->Shared->Prop} {s:Shared}
end
section
variable {X:Cx}
end
end L2
namespace L2
open PySem PySem.Spec PyProof.Rows
section
variable {κ:Type} [DecidableEq κ]
def dW (kvs:List (κ × V)) (k:κ):Option V:=(kvs.find? fun kv=>decide (kv.1=k)).map (·.2)
def putK (kvs:List (κ × V)) (k:κ) (v:V):List (κ × V) :=
 if (kvs.any fun kv=>decide (kv.1=k))=true then kvs.map (fun kv=>if kv.1=k then (kv.1,v) else kv) else kvs++[(k,v)]
theorem fU {p:κ × V} {r:List (κ × V)} {k:κ} (e:p.1=k):dW (p :: r) k=some p.2:=by simp [dW,List.find?_cons,e]
theorem fV {p:κ × V} {r:List (κ × V)} {k:κ} (e:¬ p.1=k):dW (p :: r) k=dW r k:=by simp [dW,List.find?_cons,e]
theorem lG (k:κ):∀ kvs:List (κ × V),(kvs.any fun kv=>decide (kv.1=k))=(dW kvs k).isSome
 | []=>rfl
 | p :: r=>by
   rw [List.any_cons]
   by_cases e:p.1=k
   . simp only [fU e,decide_eq_true e,Bool.true_or,Option.isSome_some]
   . rw [fV e,decide_eq_false e,Bool.false_or]; exact lG k r
theorem Bd (k j:κ) (y:V):∀ kvs:List (κ × V),dW (kvs.map fun kv=>if kv.1=k then (kv.1,y) else kv) j=(dW kvs j).map fun x=>if j=k then y else x
 | []=>rfl
 | p :: r=>by
   have ih:=Bd k j y r
   rw [List.map_cons]
   by_cases h:p.1=k
   . rw [if_pos h]
     by_cases e:p.1=j
     . rw [fU (p:=(p.1,y)) e,fU e,Option.map_some,if_pos (e.symm.trans h)]
     . rw [fV (p:=(p.1,y)) e,fV e,ih]
   . rw [if_neg h]
     by_cases e:p.1=j
     . rw [fU (p:=p) e,fU e,Option.map_some,if_neg (fun z=>h (e.trans z))]
     . rw [fV (p:=p) e,fV e,ih]
theorem wY (k j:κ) (y:V):∀ kvs:List (κ × V),dW kvs k=none->dW (kvs++[(k,y)]) j=if j=k then some y else dW kvs j
 | [],_=>by
   by_cases e:k=j
   . rw [if_pos e.symm]; exact fU (p:=(k,y)) e
   . rw [if_neg (fun z=>e z.symm)]; exact fV (p:=(k,y)) e
 | p :: r,hn=>by
   rw [List.cons_append]
   have hk:¬ p.1=k:=fun z=>by rw [fU z] at hn; cases hn
   rw [fV hk] at hn
   have ih:=wY k j y r hn
   by_cases e:p.1=j
   . rw [fU e,fU e,if_neg (fun z=>hk (e.trans z))]
   . rw [fV e,fV e,ih]
theorem qJ (kvs:List (κ × V)) (k j:κ) (y:V):dW (putK kvs k y) j=if j=k then some y else dW kvs j:=by
 unfold putK
 by_cases a:(kvs.any fun kv=>decide (kv.1=k))=true
 . rw [if_pos a,Bd]
   rw [lG] at a
   by_cases e:j=k
   . obtain ⟨x,hx⟩:=Option.isSome_iff_exists.mp a
     rw [if_pos e,e,hx,Option.map_some,if_pos rfl]
   . rw [if_neg e]
     cases dW kvs j with
     | none=>rfl
     | some x=>rw [Option.map_some,if_neg e]
 . rw [if_neg a]
   refine wY k j y kvs ?_
   rw [lG] at a
   cases q:dW kvs k with
   | none=>rfl
   | some x=>rw [q] at a; exact (a rfl).elim
theorem fY (kvs:List (κ × V)) (k:κ) (v:V):(putK kvs k v).length<=kvs.length+1:=by
 unfold putK
 split
 . rw [List.length_map]; omega
 . rw [List.length_append,List.length_cons,List.length_nil]; omega
theorem rF.rM {o:Option V} {u:Option Value} (r:rF o u):o.isSome=u.isSome:=by
 cases o with
 | none=>cases u with
   | none=>rfl
   | some _=>exact (show False from r).elim
 | some _=>cases u with
   | none=>exact (show False from r).elim
   | some _=>rfl
theorem rF.getD {o:Option V} {u:Option Value} {d:V} {d':Value} (r:rF o u) (rd:RelV d d'):RelV (o.getD d) (u.getD d'):=by
 cases o with
 | none=>cases u with
   | none=>exact rd
   | some _=>exact (show False from r).elim
 | some _=>cases u with
   | none=>exact (show False from r).elim
   | some _=>exact r
theorem KV.val {kvs:List (κ × V)} {vs:List (κ × Value)} (r:KV kvs vs) (k:κ):rF (dW kvs k) (valueAt vs k):=by
 unfold KV at r
 induction r with
 | nil=>exact True.intro
 | @cons p q ps qs h t ih =>
   obtain ⟨h1,h2⟩:=h
   by_cases e:p.1=k
   . have e':q.1=k:=h1.symm.trans e
     have b:valueAt (q :: qs) k=some q.2:=by simp [valueAt,List.find?_cons,e']
     rw [fU e,b]; exact h2
   . have e':¬ q.1=k:=fun z=>e (h1.trans z)
     have b:valueAt (q :: qs) k=valueAt qs k:=by simp [valueAt,List.find?_cons,e']
     rw [fV e,b]; exact ih
theorem KV.any {kvs:List (κ × V)} {vs:List (κ × Value)} (r:KV kvs vs) (k:κ):(kvs.any fun kv=>decide (kv.1=k))=vs.any fun kv=>decide (kv.1=k):=by
 unfold KV at r
 induction r with
 | nil=>rfl
 | cons h t ih=>rw [List.any_cons,List.any_cons,ih,h.1]
theorem KV.repl {kvs:List (κ × V)} {vs:List (κ × Value)} (r:KV kvs vs) (k:κ) {y:V} {u:Value} (ry:RelV y u) :
   KV (kvs.map fun kv=>if kv.1=k then (kv.1,y) else kv) (vs.map fun kv=>if kv.1=k then (kv.1,u) else kv):=by
 unfold KV at r ⊢
 induction r with
 | nil=>exact .nil
 | @cons p q ps qs h t ih =>
   rw [List.map_cons,List.map_cons]
   refine .cons ?_ ih
   obtain ⟨h1,h2⟩:=h
   by_cases e:p.1=k
   . rw [if_pos e,if_pos (h1.symm.trans e)]; exact ⟨h1,ry⟩
   . rw [if_neg e,if_neg (fun z=>e (h1.trans z))]; exact ⟨h1,h2⟩
theorem KV.put {kvs:List (κ × V)} {vs:List (κ × Value)} (r:KV kvs vs) (k:κ) {y:V} {u:Value} (ry:RelV y u):KV (putK kvs k y) (stored vs k u):=by
 unfold putK stored
 rw [r.any k]
 by_cases e:(vs.any fun kv=>decide (kv.1=k))=true
 . rw [if_pos e,if_pos e]; exact r.repl k ry
 . rw [if_neg e,if_neg e]; exact Paired.snoc r ⟨rfl,ry⟩
theorem KV.keys {kvs:List (κ × V)} {vs:List (κ × Value)} (r:KV kvs vs):kvs.map (·.1)=vs.map (·.1):=by
 unfold KV at r
 induction r with
 | nil=>rfl
 | cons h t ih=>rw [List.map_cons,List.map_cons,ih,h.1]
theorem KV.length {kvs:List (κ × V)} {vs:List (κ × Value)} (r:KV kvs vs):kvs.length=vs.length:=Paired.length r
end
theorem uQ {P:Program} {w:World} {k:Key} {u:Value} (r:RelV (kV k) u):(bW P w).is k u=true:=by
 cases k with
 | inl i=>cases i with
   | none=>cases (show u=Value.none from r); exact yD P w
   | some i=>obtain ⟨t,e⟩:=(show ∃ t,u=Value.int i t from r); subst e; exact Aq P w i t
 | inr x=>obtain ⟨t,e⟩:=(show ∃ t,u=Value.str x t from r); subst e; exact jy P w x t
theorem wZ {P:Program} {w:World}:∀ {ks:List Key} {us:List Value},Vals (ks.map kV) us->ItemsAre (bW P w) ks us
 | [],_,r=>by rw [List.map_nil] at r; cases r; exact .nil
 | k :: ks,_,r=>by
   rw [List.map_cons] at r
   cases r with
   | cons h t=>exact .cons (uQ h) (wZ t)
abbrev KT (H:Hp):List (List Key × V)->List (List Key × Addr × Value)->Prop:=Paired fun p q=>p.1=q.1/\H q.2.1=some (.tup (p.1.map kV))/\RelV p.2 q.2.2
theorem KT.val {H:Hp} {kvs:List (List Key × V)} {xs:List (List Key × Addr × Value)} (r:KT H kvs xs) (k:List Key):rF (dW kvs k) ((atKey xs k).map (·.2)):=by
 induction r with
 | nil=>exact True.intro
 | @cons p q ps qs h t ih =>
   obtain ⟨h1,_,h2⟩:=h
   by_cases e:p.1=k
   . have e':q.1=k:=h1.symm.trans e
     have b:atKey (q :: qs) k=some q.2:=by simp [atKey,List.find?_cons,e']
     rw [fU e,b]; exact h2
   . have e':¬ q.1=k:=fun z=>e (h1.trans z)
     have b:atKey (q :: qs) k=atKey qs k:=by simp [atKey,List.find?_cons,e']
     rw [fV e,b]; exact ih
theorem KT.repl {H:Hp} {kvs:List (List Key × V)} {xs:List (List Key × Addr × Value)} (r:KT H kvs xs) (k:List Key) {y:V} {u:Value} (ry:RelV y u) :
   KT H (kvs.map fun kv=>if kv.1=k then (kv.1,y) else kv) (xs.map (putAt k u)):=by
 induction r with
 | nil=>exact .nil
 | @cons p q ps qs h t ih =>
   rw [List.map_cons,List.map_cons]
   refine .cons ?_ ih
   obtain ⟨h1,h2,h3⟩:=h
   unfold putAt
   by_cases e:p.1=k
   . rw [if_pos e,if_pos (h1.symm.trans e)]; exact ⟨h1,h2,ry⟩
   . rw [if_neg e,if_neg (fun z=>e (h1.trans z))]; exact ⟨h1,h2,h3⟩
theorem KT.put {H:Hp} {kvs:List (List Key × V)} {xs:List (List Key × Addr × Value)} (r:KT H kvs xs) (k:List Key) {b:Addr} {y:V} {u:Value} (hb:H b=some (.tup (k.map kV))) (ry:RelV y u) :
   KT H (putK kvs k y) (storedH xs k b u):=by
 have e:(kvs.any fun kv=>decide (kv.1=k))=(atKey xs k).isSome:=by
   rw [lG,(r.val k).rM,Option.isSome_map]
 unfold putK storedH
 rw [e]
 by_cases q:(atKey xs k).isSome=true
 . rw [if_pos q,if_pos q]; exact r.repl k ry
 . rw [if_neg q,if_neg q]; exact Paired.snoc r ⟨rfl,hb,ry⟩
theorem KT.keeps {H H':Hp} {kvs:List (List Key × V)} {xs:List (List Key × Addr × Value)} (r:KT H kvs xs) (ht:∀ b ys,H b=some (.tup ys)->H' b=some (.tup ys)):KT H' kvs xs :=
 Paired.WQ r fun _ _ z=>⟨z.1,ht _ _ z.2.1,z.2.2⟩
section
variable {P:Program} {w:World} {H:Hp} {h:Heap} {a:Addr}
theorem VL {u:HO} (ok:pY P w H h) (e:Rd H a u):dR P w H h a u:=e.ok ok
theorem sY {kvs:List (Key × V)} (ok:pY P w H h) (e:Rd H a (.dK kvs)):kvs.length<=sizeLine/\(a == sysModules)=false/\∃ vs,KV kvs vs/\h.DictOf (bW P w) a vs :=
 show dR P w H h a (.dK kvs) from VL ok e
theorem xg {kvs:List (Key × V)} (ok:pY P w H h) (e:H a=some (.dK kvs)):kvs.length<=sizeLine/\(a == sysModules)=false/\∃ vs,KV kvs vs/\h.DictOf (bW P w) a vs:=sY ok (.inl e)
theorem uR {ks:List Key} (ok:pY P w H h) (e:H a=some (.tup (ks.map kV))):(tupleKind (bW P w)).is h ks a:=by
 obtain ⟨_,its,r,o,h1,h2,⟨n,h3⟩,_⟩:=(show dR P w H h a (.tup (ks.map kV)) from ok a _ e)
 exact ⟨o,its.toArray,n,h1,h2,h3,by simpa using wZ r⟩
theorem xq {kvs:List (List Key × V)} (ok:pY P w H h) (e:Rd H a (.dT kvs)):kvs.length<=sizeLine/\(a == sysModules)=false /\
   ∃ xs,KT H kvs xs/\h.DictOfH (tupleKind (bW P w)) a xs:=by
 obtain ⟨z,y,xs,r,o,es,ep,h1,h2,h3,h4,h5⟩:=(show dR P w H h a (.dT kvs) from VL ok e)
 refine ⟨z,y,xs,r,o,es,ep,h1,h2,h3,h4,fun x hx=>?_,h5⟩
 have all:∀ {l:List (List Key × V)} {m:List (List Key × Addr × Value)},KT H l m->∀ x∈m,(tupleKind (bW P w)).is h x.1 x.2.1:=by
   intro l m q
   induction q with
   | nil=>intro x hx; exact nomatch hx
   | @cons p q ps qs hq t ih =>
     intro x hx
     rcases List.mem_cons.mp hx with e | hx
     . subst e
       exact uR ok (by rw [<- hq.1]; exact hq.2.1)
     . exact ih x hx
 exact all r x hx
theorem aa0 {kvs:List (List Key × V)} (ok:pY P w H h) (e:H a=some (.dT kvs)):kvs.length<=sizeLine/\(a == sysModules)=false /\
   ∃ xs,KT H kvs xs/\h.DictOfH (tupleKind (bW P w)) a xs:=xq ok (.inl e)
end
def mH (H:Hp) (a:Addr) (y:V) (r:Option V):Prop :=
 (∃ kvs k,Rd H a (.dK kvs)/\y=kV k/\r=dW kvs k)∨∃ kvs k b,Rd H a (.dT kvs)/\y=.ref b/\H b=some (.tup (k.map kV))/\r=dW kvs k
def uf (H:Hp) (a:Addr) (y v:V) (H':Hp):Prop :=
 (∃ kvs k,H a=some (.dK kvs)/\y=kV k/\kvs.length<sizeLine/\H'=upd H a (.dK (putK kvs k v))) ∨
 ∃ kvs k b,H a=some (.dT kvs)/\y=.ref b/\H b=some (.tup (k.map kV))/\kvs.length<sizeLine/\H'=upd H a (.dT (putK kvs k v))
theorem mH.k {H:Hp} {a:Addr} {kvs:List (Key × V)} {k:Key} (e:H a=some (.dK kvs)):mH H a (kV k) (dW kvs k):=.inl ⟨kvs,k,.inl e,rfl,rfl⟩
theorem mH.t {H:Hp} {a b:Addr} {kvs:List (List Key × V)} {k:List Key} (e:H a=some (.dT kvs)) (eb:H b=some (.tup (k.map kV))):mH H a (.ref b) (dW kvs k):=.inr ⟨kvs,k,b,.inl e,rfl,eb,rfl⟩
theorem uf.k {H:Hp} {a:Addr} {kvs:List (Key × V)} {k:Key} {v:V} (e:H a=some (.dK kvs)) (hl:kvs.length<sizeLine):uf H a (kV k) v (upd H a (.dK (putK kvs k v))):=.inl ⟨kvs,k,e,rfl,hl,rfl⟩
theorem uf.t {H:Hp} {a b:Addr} {kvs:List (List Key × V)} {k:List Key} {v:V} (e:H a=some (.dT kvs)) (eb:H b=some (.tup (k.map kV))) (hl:kvs.length<sizeLine) :
   uf H a (.ref b) v (upd H a (.dT (putK kvs k v))):=.inr ⟨kvs,k,b,e,rfl,eb,hl,rfl⟩
section
variable {X:Cx} {pins:List (Addr × Obj)} {σ:St} {H:Hp} {s:Shared} {a:Addr} {y v:V} {u r:Value} {o:Option V} {A:Around} {E:Value->Shared->Prop}
theorem Inv.big (I:Inv X pins σ H s):sysModules<s.heap.objs.size:=by
 have h:mainGlobals<s.heap.objs.size:=(I.mod.glob.keeps I.bk).lt
 exact Nat.lt_trans (by decide) h
theorem JV {Q:Value->Shared->Prop} (hu:A.units+1<cLine) (I:Inv X pins σ H s) (g:mH H a y (some v)) (ry:RelV y u) (h:∀ w' s',Inv X pins σ H s'->RelV v w'->Q w' s') :
   wpAny (model X.prog X.w) A (getItem (.ref a) u) Q E s:=by
 rcases g with ⟨kvs,k,e,ey,l⟩ | ⟨kvs,k,b,e,ey,eb,l⟩
 . subst ey
   obtain ⟨z,hd,vs,rel,dd⟩:=sY I.hok e
   obtain ⟨w',hw,Nf⟩:=rF.some_of (v:=v) (o:=valueAt vs k) (by rw [l]; exact rel.val k)
   exact wpAny_getItem_of (uQ ry) dd.mapOf hw (h w' _ (I.tok _) Nf)
 . subst ey
   cases (show u=Value.ref b from ry)
   obtain ⟨z,hd,xs,rel,dd⟩:=xq I.hok e
   obtain ⟨w',hw,Nf⟩:=rF.some_of (v:=v) (o:=(atKey xs k).map (·.2)) (by rw [l]; exact rel.val k)
   obtain ⟨p,hp,hp2⟩:=Option.map_eq_some_iff.mp hw
   refine wpAny_getItem_heap (tupleKind_room_in1 hu) (uR I.hok eb) dd hp ?_
   rw [hp2]
   exact h w' _ (I.tok _) Nf
theorem aep {Q:Value->Shared->Prop} (hu:A.units+1<cLine) (I:Inv X pins σ H s) (g:mH H a y o) (ry:RelV y u) (h:∀ s',Inv X pins σ H s'->Q (.bool o.isSome) s') :
   wpAny (model X.prog X.w) A (compareOp .In u (.ref a)) Q E s:=by
 rcases g with ⟨kvs,k,e,ey,l⟩ | ⟨kvs,k,b,e,ey,eb,l⟩
 . subst ey
   obtain ⟨z,hd,vs,rel,dd⟩:=sY I.hok e
   refine wpAny_in_of (uQ ry) hd dd.mapOf ?_
   rw [<- (rel.val k).rM,<- l]
   exact h _ (I.tok _)
 . subst ey
   cases (show u=Value.ref b from ry)
   obtain ⟨z,hd,xs,rel,dd⟩:=xq I.hok e
   refine wpAny_in_heap (tupleKind_room_in1 hu) (uR I.hok eb) hd dd ?_
   have q:=(rel.val k).rM
   rw [Option.isSome_map] at q
   rw [<- q,<- l]
   exact h _ (I.tok _)
theorem ux {h':Heap} {t':Nat} {ob:HO} (I:Inv X pins σ H s) (mu:Mut (H a)) (hs:Heap.SameBut a s.heap h') (he:∃ q,h'.get? a=some q) (new:dR X.prog X.w (upd H a ob) h' a ob) :
   Inv X pins σ (upd H a ob) { s with heap:=h',toks:=t' } :=
 I.write (x:=a) (e:=a) mu (.inl rfl) (fun b q hb z=>(hs.2 b hb).trans z) he new
theorem uT {P:Program} {w:World} {H':Hp} {h':Heap} {kvs:List (Key × V)} {vs:List (Key × Value)} (z:kvs.length<=sizeLine) (hd:(a == sysModules)=false) (rel:KV kvs vs) (dd:h'.DictOf (bW P w) a vs) :
   dR P w H' h' a (.dK kvs):=⟨z,hd,vs,rel,dd⟩
theorem JW {H':Hp} {Q:Unit->Shared->Prop} (hu:A.units+1<cLine) (I:Inv X pins σ H s) (g:uf H a y v H') (ry:RelV y u) (rv:RelV v r) (h:∀ s',Inv X pins σ H' s'->Q () s') :
   wpAny (model X.prog X.w) A (setItem (.ref a) u r) Q E s:=by
 rcases g with ⟨kvs,k,e,ey,l,eH⟩ | ⟨kvs,k,b,e,ey,eb,l,eH⟩
 . subst ey eH
   obtain ⟨z,hd,vs,rel,dd⟩:=xg I.hok e
   have hz:vs.length<=sizeLine:=by rw [<- rel.length]; exact z
   have hl:(putK kvs k v).length<=sizeLine:=by have:=fY kvs k v; omega
   refine wpAny_setItem_pairs (hsz:=hz) (uQ ry) dd fun h' Xu hs=>h _ ?_
   have he:∃ q,h'.get? a=some q:=let ⟨q,_,_,hq,_⟩:=Xu; ⟨q,hq⟩
   exact ux I (by rw [e]; exact True.intro) hs he (uT hl hd (rel.put k rv) Xu)
 . subst ey eH
   cases (show u=Value.ref b from ry)
   obtain ⟨z,hd,xs,rel,dd⟩:=aa0 I.hok e
   have hz:xs.length<=sizeLine:=by rw [<- Paired.length rel]; exact z
   have hl:(putK kvs k v).length<=sizeLine:=by have:=fY kvs k v; omega
   refine wpAny_setItem_heap (hsz:=hz) (tupleKind_room_in1 hu) (uR I.hok eb) dd fun h' Xu hs=>h _ ?_
   obtain ⟨q,es,ep,hq,h2,h3,h4,_,h5⟩:=Xu
   refine ux I (by rw [e]; exact True.intro) hs ⟨q,hq⟩ ⟨hl,hd,_,(rel.put k eb rv).keeps fun c ys ec=>?_,q,es,ep,hq,h2,h3,h4,h5⟩
   rw [aL (aax ec e (fun z=>nomatch z))]
   exact ec
end
section
variable {X:Cx} {pins:List (Addr × Obj)} {σ:St} {H:Hp} {s:Shared} {a:Addr} {kvs:List (Key × V)} {k:Key} {u:Value} {A:Around} {E:Value->Shared->Prop}
theorem aa1 {Q:Value->Shared->Prop} (I:Inv X pins σ H s) (e:Rd H a (.dK kvs)) (h:∀ t s',Inv X pins σ H s'->Q (.int kvs.length t) s'):wpAny (model X.prog X.w) A (call (.builtin "len") [.ref a]) Q E s:=by
 obtain ⟨z,hd,vs,rel,dd⟩:=sY I.hok e
 refine call_len_dict hd dd (by rw [<- rel.length]; rw [sizeLine_eq] at z; omega) ?_
 rw [<- rel.length]
 exact h _ _ (I.tok _)
end
def aa2 (i:Expr):Prop:=∀ ov iv,subscripted i false ov iv=operate [ov,iv] (getItem ov iv)
theorem R8 {prog:Program} {w:World} {A:Around} {E:Value->Shared->Prop} {s:Shared} {env:Env} {value slice:Expr} {pos:Pos} {T id:String} {Q:Value->Shared->Prop}
   (hl:typeLookup (.type T) "__getitem__" = pure (some (.builtin id))) (hs:aa2 slice)
   (h:wpAny (model prog w) A (eval value env) (fun o s₁=>wpAny (model prog w) A (eval slice env) (fun i s₂=>s₂.TypeIs o T/\wpAny (model prog w) A (getItem o i) Q E s₂) E s₁) E s) :
   wpAny (model prog w) A (eval (.Subscript value slice pos) env) Q E s:=by
 refine Subscript_ (wpAny_mono h (fun o s₁ h₁=>wpAny_mono h₁ (fun i s₂ h₂=>?_) fun _ _ x=>x) fun _ _ x=>x)
 obtain ⟨hT,h₂⟩:=h₂
 unfold subscriptTail
 refine wpAny_bind ?_
 rw [getitemInPython_of_ne hT.not_modules]
 refine wpAny_bind (wpAny_specialOf hT hl ?_)
 have fin:wpAny (model prog w) A (subscripted slice false o i) (fun r s₃=>wpAny (model prog w) A (letTemporaryGo value o r >>= fun _=>pure r) Q E s₃) E s₂:=by
   rw [hs o i]
   exact wpAny_operating (wpAny_mono h₂ (fun r s₃ h₃=>wpAny_bind (wpAny_letTemporaryGo (wpAny_pure h₃))) fun _ _ x=>x)
 first
   | exact wpAny_pure (wpAny_bind fin)
   | exact wpAny_bind (wpAny_pure (wpAny_bind fin))
   | exact wpAny_bind fin
theorem Bf {X:Cx} {pins:List (Addr × Obj)} {σ:St} {H:Hp} {s:Shared} {a:Addr} {y:V} {o:Option V} (I:Inv X pins σ H s) (g:mH H a y o):s.TypeIs (.ref a) "dict":=by
 rcases g with ⟨kvs,k,e,_,_⟩ | ⟨kvs,k,b,e,_,_,_⟩
 . obtain ⟨_,_,vs,_,dd⟩:=sY I.hok e
   exact dd.typeIs
 . obtain ⟨_,_,xs,_,dd⟩:=xq I.hok e
   exact dd.typeIs
def xr (td ty:TE):TE:=fun σ H Q=>td σ H fun x H1=>ty σ H1 fun y H2=>∃ a v,x=.ref a/\mH H2 a y (some v)/\Q v H2
def R9 (ty td:TE):TE:=fun σ H Q=>ty σ H fun y H1=>td σ H1 fun x H2=>∃ a o,x=.ref a/\mH H2 a y o/\Q (.bl o.isSome) H2
def HF (td ty tv:TE):TS:=fun D σ H=>tv σ H fun v H1=>td σ H1 fun x H2=>ty σ H2 fun y H3=>∃ a H4,x=.ref a/\uf H3 a y v H4/\D.nx σ H4
section
variable {X:Cx} {o i e value:Expr} {pos pos' tpos:Pos} {td ty tv:TE}
theorem bZ (hu:X.A.units+1<cLine) (ho:PE X o td) (hi:PE X i ty) (hs:aa2 i):PE X (.Subscript o i pos) (xr td ty):=by
 intro pins s σ H Q I h
 refine R8 PySem.F.slot_dict_getitem.lookup hs (eE (ho pins s σ H _ I h) fun u s1 ⟨x,H1,I1,rx,q1⟩=>eE (hi pins s1 σ H1 _ I1 q1) fun iv s2 ⟨y,H2,I2,ry,a,v,ex,g,q2⟩=>?_)
 subst ex
 obtain rfl:u=Value.ref a:=rx
 exact ⟨Bf I2 g,JV hu I2 g ry fun w' s3 I3 Nf=>⟨v,H2,I3,Nf,q2⟩⟩
theorem Ni (hu:X.A.units+1<cLine) (hi:PE X i ty) (ho:PE X o td):PC X .In i o (R9 ty td):=by
 intro pins s σ H Q I h
 refine eE (hi pins s σ H _ I h) fun iv s1 ⟨y,H1,I1,ry,q1⟩=>eE (ho pins s1 σ H1 _ I1 q1) fun u s2 ⟨x,H2,I2,rx,a,ov,ex,g,q2⟩=>?_
 subst ex
 obtain rfl:u=Value.ref a:=rx
 exact aep hu I2 g ry fun s3 I3=>⟨.bl ov.isSome,H2,I3,rfl,q2⟩
theorem pA (hu:X.A.units+1<cLine) (ho:PE X o td) (hi:PE X i ty) (hv:PE X value tv) (hs:swapsWith value (some (.Subscript o i pos')) pos.line X.env=pure false) :
   PS X (.Assign [.Subscript o i pos'] value pos) (HF td ty tv):=by
 intro pins s σ H D I h
 refine wpAny_Assign_Subscript (eE (hv pins s σ H _ I h) fun r s1 ⟨v,H1,I1,rv,q1⟩=>eE (ho pins s1 σ H1 _ I1 q1) fun u s2 ⟨x,H2,I2,rx,q2⟩=>eE (hi pins s2 σ H2 _ I2 q2) fun iv s3 ⟨y,H3,I3,ry,a,H4,ex,g,q3⟩=>?_) hs
 subst ex
 obtain rfl:u=Value.ref a:=rx
 exact JW hu I3 g ry rv fun s4 I4=>⟨σ,H4,I4,q3⟩
end
theorem Bg {P:Program} {w:World} {H:Hp} (h:Heap) (hb:sysModules<h.objs.size):dR P w H (h.push { cls:=.type "dict",data:=.dict #[] }) h.objs.size (.dK []) :=
 ⟨Nat.zero_le _,beq_eq_false_iff_ne.mpr (Ne.symm (Nat.ne_of_lt hb)),[],.nil,Heap.DictOf.new h⟩
theorem Nj {P:Program} {w:World} {H:Hp} (h:Heap) (hb:sysModules<h.objs.size):dR P w H (h.push { cls:=.type "dict",data:=.dict #[] }) h.objs.size (.dT []) :=
 ⟨Nat.zero_le _,beq_eq_false_iff_ne.mpr (Ne.symm (Nat.ne_of_lt hb)),[],.nil,_,#[],0,Heap.get?_push_size _ rfl,⟨rfl,rfl,rfl⟩,rfl,rfl,List.nodup_nil⟩
def Em:TE:=fun _ H Q=>∀ p,H p=none->Q (.ref p) (upd H p (.dK []))
def Xv:TE:=fun _ H Q=>∀ p,H p=none->Q (.ref p) (upd H p (.dT []))
section
variable {X:Cx} {pos:Pos}
theorem nU:PE X (.Dict [] [] pos) Em:=fun pins s σ H Q I h =>
 wpAny_Dict_empty ⟨.ref s.heap.objs.size,_,I.laid (a:=s.heap.objs.size) (o:=.dK []) (t':=s.toks) (fun _ _ q=>Heap.get?_push_of_some _ q) (Nat.le_refl _) (Bg s.heap I.big),rfl,h _ (I.hok.fresh (Nat.le_refl _))⟩
theorem Bh:PE X (.Dict [] [] pos) Xv:=fun pins s σ H Q I h =>
 wpAny_Dict_empty ⟨.ref s.heap.objs.size,_,I.laid (a:=s.heap.objs.size) (o:=.dT []) (t':=s.toks) (fun _ _ q=>Heap.get?_push_of_some _ q) (Nat.le_refl _) (Nj s.heap I.big),rfl,h _ (I.hok.fresh (Nat.le_refl _))⟩
end
def gA (kvs more:List (Key × V)):List (Key × V):=more.foldl (fun acc kv=>putK acc kv.1 kv.2) kvs
theorem KV.merge:∀ {more:List (Key × V)} {rs:List (Key × Value)} {kvs:List (Key × V)} {vs:List (Key × Value)},KV more rs->KV kvs vs->KV (gA kvs more) (merged vs rs):=by
 intro more rs kvs vs r
 unfold KV at r
 induction r generalizing kvs vs with
 | nil=>intro q; exact q
 | @cons p q ps qs h t ih =>
   intro r0
   have e:KV (putK kvs p.1 p.2) (stored vs q.1 q.2):=by
     have:=r0.put p.1 h.2
     rw [<- h.1]; exact this
   exact ih e
theorem lg:∀ (more kvs:List (Key × V)),(gA kvs more).length<=kvs.length+more.length
 | [],kvs=>by show kvs.length<=kvs.length+0; omega
 | p :: r,kvs=>by
   have h1:=lg r (putK kvs p.1 p.2)
   have h2:=fY kvs p.1 p.2
   show (gA (putK kvs p.1 p.2) r).length<=_
   rw [List.length_cons]; omega
structure M2 (X:Cx) (o:Expr) (m:Str) (apos:Pos) (e f:Expr) (cpos:Pos):Prop where
 base:attributeBase o m X.env (eval o X.env)=eval o X.env
 few:((backTo cpos (starEach [e,f] X.env)).all (fun x=>!x.1) && (backToKw cpos (keywordEach [] X.env)).all (fun x=>x.1.isSome)
   && decide (([e,f]:List Expr).length+([]:List Keyword).length+(if ([]:List Keyword).isEmpty then 0 else 1)<30))=true
 line:(apos.endLine == cpos.line)=true
 trees:backTo cpos (starEach [e,f] X.env)=[(false,eval e X.env),(false,eval f X.env)]
def IsD (H:Hp) (a:Addr):Prop:=(∃ kvs,Rd H a (.dK kvs))∨∃ kvs,Rd H a (.dT kvs)
theorem Xw {X:Cx} {pins:List (Addr × Obj)} {σ:St} {H:Hp} {s:Shared} {a:Addr} (I:Inv X pins σ H s) (d:IsD H a) :
   s.TypeIs (.ref a) "dict"/\(∀ b,Value.ref a=.ref b->∃ ob,s.heap.get? b=some ob/\ob.dict=none)/\(a == sysModules)=false:=by
 rcases d with ⟨kvs,e⟩ | ⟨kvs,e⟩
 . obtain ⟨_,hd,vs,_,dd⟩:=sY I.hok e
   refine ⟨dd.typeIs,fun b q=>?_,hd⟩
   cases q
   obtain ⟨ob,_,_,h1,h2,_⟩:=dd
   exact ⟨ob,h1,h2.2.1⟩
 . obtain ⟨_,hd,xs,_,dd⟩:=xq I.hok e
   refine ⟨dd.typeIs,fun b q=>?_,hd⟩
   cases q
   obtain ⟨ob,_,_,h1,h2,_⟩:=dd
   exact ⟨ob,h1,h2.2.1⟩
section
variable {X:Cx} {pins:List (Addr × Obj)} {σ:St} {H:Hp} {s:Shared} {a:Addr} {y d:V} {u r:Value} {o:Option V} {A:Around} {E:Value->Shared->Prop}
theorem Xx {Q:Value->Shared->Prop} (hu:A.units+1<cLine) (I:Inv X pins σ H s) (g:mH H a y o) (ry:RelV y u) (rd:RelV d r) (h:∀ w' s',Inv X pins σ H s'->RelV (o.getD d) w'->Q w' s') :
   wpAny (model X.prog X.w) A (call (.builtin "dict.get") [.ref a,u,r]) Q E s:=by
 rcases g with ⟨kvs,k,e,ey,l⟩ | ⟨kvs,k,b,e,ey,eb,l⟩
 . subst ey
   obtain ⟨z,hd,vs,rel,dd⟩:=sY I.hok e
   refine call_meetsIn PySem.F.slot_dict_get dd.typeIs PySem.F.entry_dict_get (PySem.F.args_dict_get_3 _ _ _) (meets_dict_get_default (bW X.prog X.w) a (uQ ry) hd r) ⟨_,dd.mapOf,h _ _ (I.tok _) ?_⟩
   rw [l]
   exact (rel.val k).getD rd
 . subst ey
   cases (show u=Value.ref b from ry)
   obtain ⟨z,hd,xs,rel,dd⟩:=xq I.hok e
   refine call_meetsIn PySem.F.slot_dict_get dd.typeIs PySem.F.entry_dict_get (PySem.F.args_dict_get_3 _ _ _) (meetsH_dict_get_default (tupleKind (bW X.prog X.w)) a b hd r) ⟨tupleKind_room_in1 hu,k,xs,uR I.hok eb,dd,h _ _ (I.tok _) ?_⟩
   rw [l]
   exact (rel.val k).getD rd
end
def uU (td ty tx:TE):TE:=fun σ H Q=>td σ H fun x H1=>∃ a,x=.ref a/\IsD H1 a/\ty σ H1 fun y H2=>tx σ H2 fun z H3=>∃ o,mH H3 a y o/\Q (o.getD z) H3
section
variable {X:Cx} {o e f:Expr} {apos cpos:Pos} {td ty tx:TE}
theorem uV (hu:X.A.units+1<cLine) (ho:PE X o td) (he:PE X e ty) (hf:PE X f tx) (m:M2 X o "get" apos e f cpos):PE X (.Call (.Attribute o "get" apos) [e,f] [] cpos) (uU td ty tx):=by
 intro pins s σ H Q I h
 refine wpAny_Call_method m.base m.few m.line PySem.F.plainAttrs_dict PySem.F.slot_dict_get PySem.F.type_dict_get (eE (ho pins s σ H _ I h) fun u s1 ⟨x,H1,I1,rx,a,ex,d,q1⟩=>?_)
 subst ex
 obtain rfl:u=Value.ref a:=rx
 obtain ⟨t1,t2,_⟩:=Xw I1 d
 refine ⟨t1,t2,?_⟩
 rw [m.trees]
 refine Calls.callWith_builtin rfl (Calls.evalArgs_plain (Calls.spliced_cons (eE (he pins s1 σ H1 _ I1 q1) fun iv s2 ⟨y,H2,I2,ry,q2⟩ =>
   Calls.spliced_cons (eE (hf pins s2 σ H2 _ I2 q2) fun fv s3 ⟨z,H3,I3,rz,ov,g,q3⟩=>Calls.spliced_nil ?_))))
 exact Xx hu I3 g ry rz fun w' s4 I4 Nf=>⟨_,H3,I4,Nf,q3⟩
end
section
variable {X:Cx} {pins:List (Addr × Obj)} {σ:St} {H:Hp} {s:Shared} {a:Addr} {kvs:List (Key × V)} {A:Around} {E:Value->Shared->Prop}
end
section
variable {X:Cx} {pins:List (Addr × Obj)} {σ:St} {H:Hp} {s:Shared} {a:Addr} {y:V} {u:Value} {A:Around} {E:Value->Shared->Prop}
end
end L2
namespace Att
open PySem PySem.W PySem.Calls PyProof.Rows
theorem ug {P:Params} {h:Heap}:∀ (ns:List Int) (vs:List Value),WellAll P h vs (ns.map WData.int)->IntsAre vs ns:=by
 intro ns
 induction ns with
 | nil =>
   intro vs w
   rw [List.map_nil] at w
   cases w
   exact .nil
 | cons n ns ih =>
   intro vs w
   rw [List.map_cons] at w
   cases w with
   | cons a b =>
     cases a
     exact .cons _ _ (ih _ b)
theorem JX {l:OpenLaw} {n:Nat} (hn:l.most=some n) {P:Params} {h:Heap} {args:List WData} {vals:List Value}
   (hpre:l.row.toRowW.claim.pre args=true) (hwl:WellAll P h vals args) :
   ∃ a vs ns,vals=[Value.ref a]/\args=[WData.list (ns.map WData.int)]/\h.get? a=some { cls:=.type "list",data:=.seq vs.toArray }/\IntsAre vs ns/\ns.length<=n:=by
 have hsh:WShape.hasAll [] args [.list .int]=true:=(pre_splitW hpre).1
 have hc:l.pre.holds [] { args:=args }=true:=(pre_splitW hpre).2
 obtain ⟨d,r,rfl,h1,h2⟩:=hasAllW_cons hsh
 obtain rfl:=hasAllW_nil h2
 obtain ⟨xs,rfl,h3⟩:=hasW_list h1
 obtain ⟨ns,rfl⟩:=items_int h3
 have hlen:ns.length<=n:=by
   unfold OpenLaw.pre at hc
   have h4:(WTm.not (.lt (.lit (.int (n:Int))) (.len (.arg 0)))).holds [] { args:=[.list (ns.map .int)] }=true:=by
     have h4:=(holds_andW hc).1
     rw [hn] at h4
     exact h4
   have h5:=condW_of h4 (w_not (w_lt w_lit (w_len_list (w_arg rfl))))
   rw [List.length_map] at h5
   refine Nat.le_of_not_lt fun q=>?_
   have q':(n:Int)<((ns.length:Nat):Int):=by omega
   first
     | (rw [decide_eq_true q'] at h5; exact absurd h5 (by decide))
     | (simp at h5; omega)
 cases hwl with
 | cons w1 w2 =>
   cases w2
   cases w1 with
   | list ho hall=>exact ⟨_,_,ns,rfl,rfl,ho,ug ns _ hall,hlen⟩
theorem JZ (l:OpenLaw) (args:List WData):l.row.toRowW.claim.post args (.bool true) args=true :=
 postW_of (r:=l.row.toRowW) (X:=(true == true))
   (show WShape.has [] (.bool true) .bool=true by first | rfl | decide | simp [WShape.has,WShape.arms,WShape.armsAll])
   (show (WTm.eq .res (.lit (.bool true))).value [] { args:=args,res:=some (.bool true),after:=args }=some (.bool (true == true)) from w_eq_bool (w_res rfl) w_lit) rfl
section
variable {prog:Program} {w:World} {A:Around} {E:Value->Shared->Prop} {s:Shared} {K:Frag}
end
end Att
namespace L2
open PySem PySem.Spec PyProof.Rows
theorem xu:∀ {vs:List Value} {ns:List Int},IntsAre vs ns->Vals (ns.map V.int) vs
 | _,_,.nil=>.nil
 | _,_,.cons n t h=>.cons ⟨t,rfl⟩ (xu h)
def Only (H:Hp):Prop:=∀ b,H b=none∨∃ o xs,H b=some (.nu o (.lst xs))
theorem Nk {P:Program} {w:World} {K:PySem.W.Frag} {mg mb:Str->Option Value} {CX:JL} {k:Nat} {fa a:Addr} {fd:FuncData} {x:Str} {sp:Sp} {s₁:Shared} {vs:List Value} {ns:List Int}
   (KX:K.In s₁.heap) (hns:s₁.heap.Ns mainGlobals mg) (hb:s₁.heap.Ns builtinsNs mb) (hbb:∀ x:Str,x≠"__name__"->mb x=bootBuiltins x) (hlim:s₁.heap.NoLimit) (hg:s₁.gens=#[])
   (ha:s₁.heap.get? a=some { cls:=.type "list",data:=.seq vs.toArray }) (hi:IntsAre vs ns) (hl:ns.length<=sizeLine) (hr:kZ k callerA)
   (F:∀ base:Heap,K.In base->base.Ns mainGlobals mg->aX P w K mg base CX k fa fd [x] sp) (hbind:∀ (s:Shared) (u:Value),BindsTo s fd ⟨[u],[]⟩ [(x,u)])
   (hsp:∀ H:Hp,Only H->dg K H a (ns.map V.int)->sp [.ref a] H (fun v _=>v=.bl true) fun _ _ _=>False)
   (hCX:∀ H e s',CX [] H s₁ (fun _ _ _=>False) e s'->False) :
   codeAny (model P w) callerA (.call (.ref fa) ⟨[.ref a],[]⟩) (fun r s'=>r=.ok (.ret (.bool true))/\OldK s₁.heap s'.heap/\s'.os=s₁.os/\AllBare s'.gens) s₁:=by
 have rv:=xu hi
 have lenV:=hi.length
 -- from an abstract heap in which nothing but the script may be tracked
 have core:∀ H:Hp,Only H->dg K H a (ns.map V.int)->pY P w H s₁.heap->(∀ b,H b≠none->b=a)->(H a≠none->K.lookup a=none) ->
     codeAny (model P w) callerA (.call (.ref fa) ⟨[.ref a],[]⟩) (fun r s'=>r=.ok (.ret (.bool true))/\OldK s₁.heap s'.heap/\s'.os=s₁.os/\AllBare s'.gens) s₁:=by
   intro H hO hS hok hA hK
   have HJ:∀ {b:Addr} {o:Obj},s₁.heap.get? b=some o->H b=none->(yF s₁.heap H).get? b=some o:=fun e n=>MF e n
   have noA:∀ {b:Addr} {o:Obj} {es:Array DictEntry} {ep:Nat},s₁.heap.get? b=some o->o.data=.dict es ep->H b=none:=fun {b o es ep} e d=>by
     cases q:H b with
     | none=>rfl
     | some u =>
       have e':b=a:=hA b (by rw [q]; simp)
       subst e'
       rw [ha] at e; cases e
       have d':Data.seq vs.toArray _=Data.dict es ep:=d
       cases d'
   have nsK:∀ {b:Addr} {m:Str->Option Value},s₁.heap.Ns b m->(yF s₁.heap H).Ns b m:=fun {b m} ⟨o,es,ep,e,d,r⟩=>⟨o,es,ep,HJ e (noA e d),d,r⟩
   have hKb:K.In (yF s₁.heap H):=fun b o e=>HJ (KX b o e) (by
     cases q:H b with
     | none=>rfl
     | some u =>
       have e':b=a:=hA b (by rw [q]; simp)
       subst e'
       rw [hK (by rw [q]; simp)] at e; cases e)
   have hM:Mod K mg (yF s₁.heap H):=⟨hKb,nsK hns,⟨mb,nsK hb,hbb⟩,let ⟨mc,h1,h2⟩:=hlim; ⟨mc,nsK h1,h2⟩⟩
   have e0:RW P w K mg (yF s₁.heap H) callerA [] s₁ H:=⟨rfl,hM,fun b o e=>RK e,Nat.le_of_eq (Jw _ _),trivial,fun b hb=>absurd (show b∈([]:List Addr) from hb) (by simp),hok,.of_eq hg⟩
   refine codeAny_mono ((F _ hKb (nsK hns)).run callerA [] s₁ H ⟨[.ref a],[]⟩ [.ref a] [.ref a] _ _ hr e0 (hbind s₁ (.ref a)) (.cons rfl .nil) (hsp H hO hS)) fun r s' h=>?_
   cases r with
   | error e=>exact (hCX H e s' h).elim
   | ok fl =>
     cases fl with
     | next=>exact False.elim h
     | brk=>exact False.elim h
     | cont=>exact False.elim h
     | ret u =>
       obtain ⟨v,H',os,bare,un,hok',r',q⟩:=h
       have q':v=.bl true:=q
       subst q'
       obtain rfl:u=Value.bool true:=r'
       refine ⟨rfl,OldK.of_keep fun b o e=>?_,os,bare⟩
       cases q:H b with
       | none=>exact un.keep b o e q (by intro z; exact absurd (show b∈([]:List Addr) from z) (by simp)) (by simp)
       | some u =>
         rcases hO b with z | ⟨ob,xs,z⟩
         . rw [q] at z; cases z
         . have z2:=un.yE b ob _ z
           obtain ⟨e1,_⟩:=hok b _ z
           obtain ⟨e2,_⟩:=hok' b _ z2
           rw [e] at e1; cases e1
           exact e2
 cases hk:K.lookup a with
 | some o =>
   -- the script is one of the module's own objects
   have e:=KX a o hk
   rw [ha] at e
   cases e
   refine core (fun _=>none) (fun _=>.inl rfl) (.inr ⟨_,vs.toArray,_,hk,rfl,rfl,rfl,by rw [List.size_toArray,lenV]; exact hl,by simpa using rv⟩) (fun b u z=>by have z':(none:Option HO)=some u:=z; cases z') (fun b z=>absurd rfl z) fun z=>absurd rfl z
 | none =>
   refine core (fun b=>if b=a then some (.nu { cls:=.type "list",data:=.seq vs.toArray } (.lst (ns.map V.int))) else none) (fun b=>?_) (.inl (.inr ⟨{ cls:=.type "list",data:=.seq vs.toArray },if_pos rfl⟩)) (fun b u z=>?_) (fun b z=>?_) fun _=>hk
   . by_cases hb:b=a
     . exact .inr ⟨_,_,if_pos hb⟩
     . exact .inl (if_neg hb)
   . by_cases hb:b=a
     . have z':=(if_pos hb).symm.trans z
       cases z'
       subst hb
       exact ⟨ha,by rw [List.length_map]; exact hl,vs,_,rv,ha⟩
     . have z':=(if_neg hb).symm.trans z
       cases z'
   . by_cases hb:b=a
     . exact hb
     . exact absurd (if_neg hb) z
end L2
namespace L2
open PySem PySem.Spec PyProof.Rows
end L2
namespace L2
open PySem PySem.Spec PyProof.Rows
def bC (s:Stmt):Arguments:=match s with
 | .FunctionDef _ a _ _ _ _ _ _ _ _=>a
 | _=>{ posonlyargs:=[],args:=[],vararg:=none,kwonlyargs:=[],kw_defaults:=[],kwarg:=none,defaults:=[] }
def bB (s:Stmt):List Stmt:=match s with
 | .FunctionDef _ _ b _ _ _ _ _ _ _=>b
 | _=>[]
def aA (s:Stmt):Scope:=match s with
 | .FunctionDef _ _ _ _ _ _ sc _ _ _=>sc
 | _=>{ kind:=.function,names:=[],isGenerator:=false,isCoroutine:=false }
abbrev dM:JL:=fun _ _ _ _ _ _=>False
abbrev E0:XK:=fun _ _ _=>False
theorem bf {X:Cx}:Passes dM X E0:=fun _ _ _ _ _ _ _ h=>h.elim
structure nG (K:PySem.W.Frag) (x qual:Str) (st:Stmt) (f:Addr) (fd:FuncData):Prop where
 ex:∃ (oc:Value) (od:Option Addr) (kV doc pm:Value) (an:Option Addr) (cdv ct:Value) (osl:Array (Option Value)),
   fd=PySem.W.fnOf x qual (bC st) (bB st) (aA st) .none kV doc pm an cdv ct/\K.lookup f=some ⟨oc,od,.func fd,osl⟩/\PySem.W.codeIn K cdv qual=true
 kp:PySem.W.keepIn K (.ref f)=true
section
variable {P:Program} {w:World} {K:PySem.W.Frag} {mg:Str->Option Value} {base:Heap}
theorem nG.ok {x qual:Str} {st:Stmt} {f:Addr} {fd:FuncData} {N ps:List Str} {k:Nat} {sp:Sp} (F:nG K x qual st f fd) (S:bG N ps (aA st)) (len:∀ vs H Q E,sp vs H Q E->vs.length=ps.length)
   (hbody:∀ (cdv:Value) (A:Around) (outer:List Env) (s:Shared) (H:Hp) (vs:List V) (Q:VK) (E:XK),kZ k (A.deeper (envOfC qual (aA st) s.heap.objs.size f cdv))->sp vs H Q E ->
     ∃ t,Jy (JM dM P w K mg base N qual (aA st) f cdv A outer s H E).nox (bB st) t/\t { nx:=fun _ H'=>Q .non H',rt:=Q } (start N vs) H):aX P w K mg base dM (k+1) f fd ps sp:=by
 obtain ⟨oc,od,kV,doc,pm,an,cdv,ct,osl,rfl,lk,hcd⟩:=F.ex
 refine aaT lk hcd S len fun A outer s H vs Q E hr hsp=>?_
 obtain ⟨t,h,q⟩:=hbody cdv A outer s H vs Q E hr hsp
 exact ⟨t,h.nox,q⟩
theorem nG.binds {x qual:Str} {st:Stmt} {f:Addr} {fd:FuncData} {ps:List Str} (F:nG K x qual st f fd)
   (h:∀ (kV doc pm:Value) (an:Option Addr) (cdv ct:Value) (us:List Value),us.length=ps.length->bindArgs (PySem.W.fnOf x qual (bC st) (bB st) (aA st) .none kV doc pm an cdv ct) ⟨us,[]⟩=pure (ps.zip us)):Binds K fd ps []:=by
 obtain ⟨oc,od,kV,doc,pm,an,cdv,ct,osl,rfl,lk,hcd⟩:=F.ex
 exact .all (h kV doc pm an cdv ct)
theorem cG {x qual:Str} {st:Stmt} {f:Addr} {oc:Value} {od an:Option Addr} {osl:Array (Option Value)} {kV doc pm cdv ct:Value} (l:K.lookup f=some ⟨oc,od,.func (PySem.W.fnOf x qual (bC st) (bB st) (aA st) .none kV doc pm an cdv ct),osl⟩)
   (c:PySem.W.codeIn K cdv qual=true) (k:PySem.W.keepIn K (.ref f)=true):nG K x qual st f (PySem.W.fnOf x qual (bC st) (bB st) (aA st) .none kV doc pm an cdv ct):=⟨⟨oc,od,kV,doc,pm,an,cdv,ct,osl,rfl,l,c⟩,k⟩
end
theorem cV {A:Around} {k:Nat} (hr:kZ k A):A.units+1<cLine:=Nat.lt_of_le_of_lt (Nat.add_le_add_left (by decide:1<=64) _) hr.units
section
variable {X:Cx}
end
theorem j7 {c A B:Prop} [Decidable c] (h1:c->A) (h2:¬ c->B):if c then A else B:=by
 by_cases h:c
 . rw [if_pos h]
   exact h1 h
 . rw [if_neg h]
   exact h2 h
def Same (H H':Hp):Prop:=∀ b o,H b=some o->H' b=some o
theorem Same.refl (H:Hp):Same H H:=fun _ _ h=>h
theorem Same.trans {H H1 H2:Hp} (a:Same H H1) (b:Same H1 H2):Same H H2:=fun c o h=>b c o (a c o h)
theorem Same.free {H H':Hp} (e:Same H H') {l:Addr} (h:H' l=Option.none):H l=Option.none:=by
 cases q:H l with
 | none=>rfl
 | some o =>
   rw [e l o q] at h
   cases h
end L2
namespace L2
open PySem PySem.Spec PyProof.Rows
section
variable {X:Cx}
theorem xG:gC X (.builtin "len") (fun xs H Q=>∃ a kvs,xs=[V.ref a]/\H a=some (.dK kvs)/\Q (.int kvs.length) H):=by
 intro pins s σ H xs us Q I r h
 obtain ⟨a,kvs,rfl,ha,q⟩:=h
 obtain ⟨u,rfl,ru⟩:=vals1 r
 cases ru
 exact aa1 I (.inl ha) fun t s' I'=>⟨.int kvs.length,H,I',⟨t,rfl⟩,q⟩
end
section
variable {κ:Type} [DecidableEq κ]
theorem Sg {kvs:List (κ × V)} {k:κ} {v:V} (h:dW kvs k=some v):k∈kvs.map (·.1):=by
 have q:(kvs.any fun kv=>decide (kv.1=k))=true:=by
   rw [lG,h]
   all_goals rfl
 obtain ⟨p,hp,e⟩:=List.any_eq_true.mp q
 exact List.mem_map.mpr ⟨p,hp,of_decide_eq_true e⟩
end
end L2
set_option maxHeartbeats 4000000
namespace L2
open PySem PySem.Spec PyProof.Rows
def lH (scope sc:Scope):Scope :=
 { scope with names:=scope.names.map fun (n,k)=>if (k == .free && sc.kind == .function && sc.names.lookup n == some .cell) then (n,.cell) else (n,k) }
structure BI where
 cells:List (Str × Addr)
 C:Addr
 s:Shared
 H:Hp
 fp:List Addr
 pins:List (Addr × Obj)
def Bj (scope:Scope) (cells:List (Str × Addr)) (C:Addr) (env:Env):Env :=
 { scope:=lH scope env.scope,locals:=C,globals:=env.globals,cells:=cells,qual:=env.qual,func:=none,code:=env.code,frame:=env.frame,builtins:=env.builtins }
def blk (X:Cx) (scope:Scope) (N:List Str) (b:BI):Cx where
 prog:=X.prog
 w:=X.w
 K:=X.K
 mg:=X.mg
 base:=X.base
 A:=X.A
 N:=N
 s₀:=b.s
 H₀:=b.H
 env:=Bj scope b.cells b.C X.env
 outer:=X.stack
 stack:=X.stack
 ex:=b.fp
 fn:=fun x=>scope.names.lookup x == some .cell
 calm:=X.calm
 pn:=X.pn++b.pins
 xe:=fun _ _=>False
def gG (env:Env):List (Str × NameKind)->List (Str × Addr)->List (Str × Addr)
 | [],acc=>acc
 | (n,k) :: r,acc=>if k == .free then gG env r ((n,(env.cells.lookup n).getD 0) :: acc) else gG env r acc
theorem p7 (env:Env) (f:Str × NameKind->List (Str × Addr)->Sem (ForInStep (List (Str × Addr))))
   (hf:∀ n k cs,f (n,k) cs=if k == .free then (cellOf env n >>= fun a=>pure (.yield ((n,a) :: cs))) else pure (.yield cs)) :
   ∀ (names:List (Str × NameKind)) (acc:List (Str × Addr)),(∀ y∈names,y.2=.free->∃ c,env.cells.lookup y.1=some c)->forIn names acc f=(pure (gG env names acc):Sem _)
 | [],acc,_=>by rw [List.forIn_nil]; rfl
 | (n,k) :: r,acc,h=>by
   rw [List.forIn_cons,hf]
   have hr:∀ y∈r,y.2=.free->∃ c,env.cells.lookup y.1=some c:=fun y hy=>h y (List.mem_cons_of_mem _ hy)
   cases hk:k == NameKind.free with
   | true =>
     obtain ⟨c,hc⟩:=h (n,k) List.mem_cons_self (beq_iff_eq.mp hk)
     have e1:cellOf env n=pure c:=by unfold cellOf; rw [show env.cells.lookup n=some c from hc]
     have e2:gG env ((n,k) :: r) acc=gG env r ((n,c) :: acc):=by
       show (if (k == NameKind.free)=true then _ else _)=_
       rw [if_pos hk,show env.cells.lookup n=some c from hc]; rfl
     rw [e2,if_pos rfl,e1]
     exact p7 env f hf r ((n,c) :: acc) hr
   | false =>
     have e2:gG env ((n,k) :: r) acc=gG env r acc:=by
       show (if (k == NameKind.free)=true then _ else _)=_
       rw [if_neg (by rw [hk]; exact Bool.false_ne_true)]
     rw [e2,if_neg Bool.false_ne_true]
     exact p7 env f hf r acc hr
theorem pQ {scope:Scope} {env:Env} (h:∀ y∈scope.names,y.2=.free->∃ c,env.cells.lookup y.1=some c):closureFor scope env=pure (gG env scope.names []):=by
 simp only [closureFor]
 rw [p7 env _ (fun n k cs=>by cases hk:k == NameKind.free <;> simp [hk]) scope.names [] h]
 rfl
theorem kj {env:Env} {x:Str} {c:Addr}:∀ (names:List (Str × NameKind)) (acc:List (Str × Addr)),(gG env names acc).lookup x=some c->acc.lookup x=some c∨((x,NameKind.free)∈names/\c=(env.cells.lookup x).getD 0)
 | [],_,h=>.inl h
 | (n,k) :: r,acc,h=>by
   unfold gG at h
   by_cases hk:(k == NameKind.free)=true
   . rw [if_pos hk] at h
     rcases kj r _ h with z | ⟨z,e⟩
     . rw [List.lookup_cons] at z
       cases hx:x == n with
       | true =>
         rw [hx] at z
         have e1:x=n:=beq_iff_eq.mp hx
         have e2:k=NameKind.free:=beq_iff_eq.mp hk
         exact .inr ⟨by rw [e1,e2]; exact List.mem_cons_self,by rw [e1]; exact (Option.some.inj z).symm⟩
       | false=>rw [hx] at z; exact .inl z
     . exact .inr ⟨List.mem_cons_of_mem _ z,e⟩
   . rw [if_neg hk] at h
     rcases kj r _ h with z | ⟨z,e⟩
     . exact .inl z
     . exact .inr ⟨List.mem_cons_of_mem _ z,e⟩
theorem qb {env:Env} {x:Str}:∀ (names:List (Str × NameKind)) (acc:List (Str × Addr)),((x,NameKind.free)∈names∨∃ c,acc.lookup x=some c)->∃ c,(gG env names acc).lookup x=some c
 | [],_,h=>h.elim (fun z=>nomatch z) fun z=>z
 | (n,k) :: r,acc,h=>by
   unfold gG
   by_cases hk:(k == NameKind.free)=true
   . rw [if_pos hk]
     refine qb r _ ?_
     by_cases hx:x=n
     . exact .inr ⟨_,by rw [List.lookup_cons,beq_iff_eq.mpr hx]⟩
     . rcases h with z | ⟨c,z⟩
       . rcases List.mem_cons.mp z with e | z
         . exact absurd (congrArg Prod.fst e) hx
         . exact .inl z
       . exact .inr ⟨c,by rw [List.lookup_cons,beq_eq_false_iff_ne.mpr hx]; exact z⟩
   . rw [if_neg hk]
     refine qb r _ ?_
     rcases h with z | z
     . rcases List.mem_cons.mp z with e | z
       . have e2:NameKind.free=k:=congrArg Prod.snd e
         exact absurd (beq_iff_eq.mpr e2.symm) hk
       . exact .inl z
     . exact .inr z
theorem eX:∀ (names:List (Str × NameKind)) (n:Nat) (acc:List (Str × Addr)),cellsFrom n names acc=cellsFrom n names []++acc
 | [],_,_=>rfl
 | (x,k) :: r,n,acc=>by
   unfold cellsFrom
   split
   . rw [eX r (n+1) ((x,n) :: acc),eX r (n+1) [(x,n)],List.append_assoc]; rfl
   . exact eX r n acc
theorem iK {x:Str} {c:Addr}:∀ (names:List (Str × NameKind)) (n:Nat) (acc:List (Str × Addr)),(x,c)∈cellsFrom n names acc->(x,c)∈acc∨(x,NameKind.cell)∈names
 | [],_,_,h=>.inl h
 | (y,k) :: r,n,acc,h=>by
   unfold cellsFrom at h
   split at h
   . rename_i hk
     rcases iK r _ _ h with z | z
     . rcases List.mem_cons.mp z with e | z
       . have e1:x=y:=congrArg Prod.fst e
         rw [e1,<- beq_iff_eq.mp hk]; exact .inr List.mem_cons_self
       . exact .inl z
     . exact .inr (List.mem_cons_of_mem _ z)
   . rcases iK r _ _ h with z | z
     . exact .inl z
     . exact .inr (List.mem_cons_of_mem _ z)
theorem lookup_append {α:Type} {x:Str}:∀ (l m:List (Str × α)),(l++m).lookup x=match l.lookup x with | some c=>some c | none=>m.lookup x
 | [],m=>rfl
 | (y,c) :: l,m=>by
   rw [List.cons_append,List.lookup_cons,List.lookup_cons]
   cases x == y with
   | true=>rfl
   | false=>exact lookup_append l m
theorem nW {α:Type} {x:Str}:∀ {l:List (Str × α)},(∀ c,(x,c) ∉ l)->l.lookup x=none
 | [],_=>rfl
 | (y,c) :: l,h=>by
   rw [List.lookup_cons]
   have hx:x≠y:=fun e=>h c (by rw [e]; exact List.mem_cons_self)
   rw [beq_eq_false_iff_ne.mpr hx]
   exact nW fun c hc=>h c (List.mem_cons_of_mem _ hc)
theorem pU {sc:Scope} {x:Str}:∀ (names:List (Str × NameKind)),(names.map fun (n,k)=>if (k == NameKind.free && sc.kind == .function && sc.names.lookup n == some .cell) then (n,NameKind.cell) else (n,k)).lookup x =
   (names.lookup x).map fun k=>if (k == NameKind.free && sc.kind == .function && sc.names.lookup x == some .cell) then NameKind.cell else k
 | []=>rfl
 | (n,k) :: r=>by
   have ih:=pU (sc:=sc) (x:=x) r
   rw [List.map_cons]
   by_cases hc:(k == NameKind.free && sc.kind == .function && sc.names.lookup n == some .cell)=true
   . show List.lookup x ((if (k == NameKind.free && sc.kind == .function && sc.names.lookup n == some .cell)=true then (n,NameKind.cell) else (n,k)) :: _)=_
     rw [if_pos hc,List.lookup_cons,List.lookup_cons]
     cases hx:x == n with
     | true =>
       have e:x=n:=beq_iff_eq.mp hx
       subst e
       show some NameKind.cell=some (if (k == NameKind.free && sc.kind == .function && sc.names.lookup x == some .cell)=true then NameKind.cell else k)
       rw [if_pos hc]
     | false=>exact ih
   . show List.lookup x ((if (k == NameKind.free && sc.kind == .function && sc.names.lookup n == some .cell)=true then (n,NameKind.cell) else (n,k)) :: _)=_
     rw [if_neg hc,List.lookup_cons,List.lookup_cons]
     cases hx:x == n with
     | true =>
       have e:x=n:=beq_iff_eq.mp hx
       subst e
       show some k=some (if (k == NameKind.free && sc.kind == .function && sc.names.lookup x == some .cell)=true then NameKind.cell else k)
       rw [if_neg hc]
     | false=>exact ih
theorem uW {M:Model} {A:Around} {E:Value->Shared->Prop} {s:Shared} {scope:Scope} {globals:Addr} {cl:List (Str × Addr)} {qual:Str} {env:Env} {Q:Env->Shared->Prop}
   (hQ:Q (newEnv scope s.heap.objs.size globals (cellsFrom (s.heap.objs.size+1) scope.names cl) qual none .none (some env) builtinsNs) { s with heap:=pushCells (s.heap.push { cls:=.type "dict",data:=.dict #[] }) scope.names }) :
   wpAny M A (newFunctionEnv scope globals cl [] qual none .none (some env)) Q E s:=by
 simp only [newFunctionEnv,Option.isSome_some,if_true]
 refine wpAny_bind (wpAny_alloc ?_)
 refine wpAny_bind (wpAny_layCells _ (fun name kind cells=>by cases hkc:kind == NameKind.cell <;> simp [hkc]) _ _ _ _ ?_)
 rw [show ({ s with heap:=s.heap.push { cls:=.type "dict",data:=.dict #[] } }:Shared).heap.objs.size=s.heap.objs.size+1 from Heap.size_push ..]
 simp only [List.forIn_nil]
 exact wpAny_bind (wpAny_pure (wpAny_pure hQ))
structure uh (g8 scope:Scope) (N' own cp:List Str) (ixs:List Nat):Prop where
 kind:scope.kind=.function
 nm:∀ y∈scope.names,scope.names.lookup y.1=some y.2
 free:∀ y∈scope.names,y.2=.free->g8.names.lookup y.1=some .cell∨g8.names.lookup y.1=some .free
 cap:∀ x∈cp,scope.names.lookup x=some .free
 ix:ixs.map (fun i=>N'[i]?)=cp.map some
 nd:(own++cp).Nodup
def HN (own:List Str) (ix:List Nat) (σ:St):St:=own.map (fun _=>none)++ix.map fun i=>(σ[i]?).getD none
end L2
namespace L2
open PySem PySem.Spec PyProof.Rows
section
variable {X:Cx} {pins:List (Addr × Obj)} {σ:St} {H:Hp} {s:Shared}
abbrev Xy (s:Shared) (scope:Scope):Heap:=pushCells (s.heap.push { cls:=.type "dict",data:=.dict #[] }) scope.names
abbrev RB (X:Cx) (s:Shared) (scope:Scope):List (Str × Addr):=cellsFrom (s.heap.objs.size+1) scope.names (gG X.env scope.names [])
abbrev uy (X:Cx) (pins:List (Addr × Obj)) (s:Shared) (H:Hp) (scope:Scope) (fp:List Addr):BI:=⟨RB X s scope,s.heap.objs.size,s,H,fp,pins⟩
theorem rN (s:Shared) (scope:Scope) (b:Addr) (o:Obj) (e:s.heap.get? b=some o):(Xy s scope).get? b=some o:=pushCells_keeps _ _ b o (Heap.get?_push_of_some _ e)
theorem HW (s:Shared) (scope:Scope):CellsOk (Xy s scope) (s.heap.objs.size+1) (cellsFrom (s.heap.objs.size+1) scope.names []):=by
 have ok:=cellsFrom_ok scope.names (s.heap.push { cls:=.type "dict",data:=.dict #[] }) (s.heap.objs.size+1) [] ⟨fun _ _ hm=>(nomatch hm),List.Pairwise.nil⟩ (by rw [Heap.size_push]; exact Nat.le_refl _)
 rw [Heap.size_push] at ok
 exact ok
theorem lJ {g8 scope:Scope} {N' own cap:List Str} {ix:List Nat} (S:uh g8 scope N' own cap ix) (hX:X.env.scope=g8) (I:Inv X pins σ H s) {x:Str} {c:Addr} (h:(RB X s scope).lookup x=some c) :
   ((x,c)∈cellsFrom (s.heap.objs.size+1) scope.names []/\s.heap.objs.size+1<=c/\scope.names.lookup x=some .cell)∨(X.env.cells.lookup x=some c/\scope.names.lookup x=some .free):=by
 have h':(cellsFrom (s.heap.objs.size+1) scope.names (gG X.env scope.names [])).lookup x=some c:=h
 rw [eX,lookup_append] at h'
 cases e:(cellsFrom (s.heap.objs.size+1) scope.names []).lookup x with
 | some c' =>
   rw [e] at h'
   cases h'
   have m:=PySem.mem_of_lookup e
   refine .inl ⟨m,((HW s scope).empty _ _ m).2,?_⟩
   rcases iK _ _ _ m with z | z
   . exact nomatch z
   . exact S.nm _ z
 | none =>
   rw [e] at h'
   rcases kj _ _ h' with z | ⟨z,ec⟩
   . exact nomatch z
   . have hf:=S.free _ z rfl
     rw [<- hX] at hf
     obtain ⟨c',e'⟩:=I.ok.has x hf
     rw [e'] at ec
     exact .inr ⟨by rw [e',ec]; rfl,S.nm _ z⟩
theorem Bk {g8 scope:Scope} {N' own cap:List Str} {ix:List Nat} (S:uh g8 scope N' own cap ix) (hX:X.env.scope=g8) (I:Inv X pins σ H s) {x:Str} (hx:scope.names.lookup x=some .free) :
   ∃ c,X.env.cells.lookup x=some c/\(RB X s scope).lookup x=some c:=by
 have m:=PySem.mem_of_lookup hx
 have hf:=S.free _ m rfl
 rw [<- hX] at hf
 obtain ⟨c,e⟩:=I.ok.has x hf
 refine ⟨c,e,?_⟩
 have n1:(cellsFrom (s.heap.objs.size+1) scope.names []).lookup x=none:=nW fun c' hc'=>by
   rcases iK _ _ _ hc' with z | z
   . exact nomatch z
   . have:=S.nm _ z
     rw [hx] at this
     cases this
 obtain ⟨c',e'⟩:=qb (env:=X.env) (x:=x) scope.names [] (.inl m)
 show (cellsFrom (s.heap.objs.size+1) scope.names (gG X.env scope.names [])).lookup x=some c
 rw [eX,lookup_append,n1]
 show (gG X.env scope.names []).lookup x=some c
 rcases kj _ _ e' with z | ⟨_,z⟩
 . exact nomatch z
 . rw [e',z,e]; rfl
theorem kindB {scope sc:Scope} {x:Str}:(lH scope sc).names.lookup x=(scope.names.lookup x).map fun k=>if (k == NameKind.free && sc.kind == .function && sc.names.lookup x == some .cell) then NameKind.cell else k:=pU scope.names
theorem aa3 {g8 scope:Scope} {own cap:List Str} {ix:List Nat} (S:uh g8 scope X.N own cap ix) (hX:X.env.scope=g8) (I:Inv X pins σ H s) {h':Heap} {m:Str->Option Value} (keep:∀ x c v,X.env.cells.lookup x=some c->s.heap.IsCell c v->h'.IsCell c v)
   (i:Nat) (x:Str) (v:V) (e1:(own++cap)[i]?=some x) (e2:(HN own ix σ)[i]?=some (some v)):∃ u,RelV v u/\Look (Bj scope (RB X s scope) s.heap.objs.size X.env) h' m x u:=by
 have hi:¬ i<own.length:=fun hi=>by
   unfold HN at e2
   rw [List.getElem?_append_left (by simpa using hi),List.getElem?_map] at e2
   cases q:own[i]? with
   | none=>rw [q] at e2; cases e2
   | some y=>rw [q] at e2; cases e2
 have e1':cap[i-own.length]?=some x:=by
   rw [List.getElem?_append_right (by omega)] at e1
   exact e1
 have e2':∃ k,ix[i-own.length]?=some k/\σ[k]?=some (some v):=by
   unfold HN at e2
   rw [List.getElem?_append_right (by simpa using Nat.le_of_not_lt hi),List.getElem?_map,List.length_map] at e2
   cases q:ix[i-own.length]? with
   | none=>rw [q] at e2; cases e2
   | some k =>
     rw [q] at e2
     have e3:(σ[k]?).getD none=some v:=Option.some.inj e2
     cases q2:σ[k]? with
     | none=>rw [q2] at e3; cases e3
     | some z =>
       rw [q2] at e3
       exact ⟨k,rfl,by rw [q2,show z=some v from e3]⟩
 obtain ⟨k,hk,hv⟩:=e2'
 have hN:X.N[k]?=some x:=by
   have z:=congrArg (fun l=>l[i-own.length]?) S.ix
   simp only [List.getElem?_map] at z
   rw [hk,e1'] at z
   exact Option.some.inj z
 have hx:=S.cap x (List.mem_of_getElem? e1')
 have m':=PySem.mem_of_lookup hx
 have hf:=S.free _ m' rfl
 rw [<- hX] at hf
 obtain ⟨m0,_,hl⟩:=I.loc
 obtain ⟨u,r,l⟩:=hl k x v hN hv (hf.elim (fun z=>.inr (.inl z)) fun z=>.inr (.inr z))
 refine ⟨u,r,?_⟩
 have l':∃ c,X.env.cells.lookup x=some c/\s.heap.IsCell c (some u):=by
   rcases l with ⟨z,_⟩ | ⟨_,c,z,q⟩
   . rcases hf with y | y
     . rw [show X.env.kindOf x=some .cell from y] at z; cases z
     . rw [show X.env.kindOf x=some .free from y] at z; cases z
   . exact ⟨c,z,q⟩
 obtain ⟨c,ec,hc⟩:=l'
 obtain ⟨c',ec',eb⟩:=Bk S hX I hx
 rw [ec] at ec'
 cases ec'
 refine .inr ⟨?_,c,eb,keep x c _ ec hc⟩
 have kb:(Bj scope (RB X s scope) s.heap.objs.size X.env).kindOf x=some (if (NameKind.free == NameKind.free && X.env.scope.kind == .function && X.env.scope.names.lookup x == some .cell) then NameKind.cell else NameKind.free):=by
   show (lH scope X.env.scope).names.lookup x=_
   rw [kindB,hx]; rfl
 rw [kb]
 by_cases q:(NameKind.free == NameKind.free && X.env.scope.kind == .function && X.env.scope.names.lookup x == some .cell)=true
 . rw [if_pos q]; exact .inl rfl
 . rw [if_neg q]; exact .inr rfl
theorem HX {g8 scope:Scope} {own cap:List Str} {ix:List Nat} {fp:List Addr} (S:uh g8 scope X.N own cap ix) (hX:X.env.scope=g8) (I:Inv X pins σ H s) (hf:∀ b∈fp,mD X pins H b) (ho:∀ b∈fp,∃ o,s.heap.get? b=some o) :
   Inv (blk X scope (own++cap) (uy X pins s H scope fp)) [] (HN own ix σ) H { s with heap:=Xy s scope }:=by
 have kp:=rN s scope
 have own1:=HW s scope
 have ltC:∀ x c,X.env.cells.lookup x=some c->c<s.heap.objs.size:=fun x c e=>by
   obtain ⟨v,o,e',_⟩:=I.cell x c e
   exact Heap.lt_size e'
 have Z7:∀ b∈fp,b<s.heap.objs.size:=fun b hb=>let ⟨_,e⟩:=ho b hb; Heap.lt_size e
 have aa4:∀ b,b≠X.env.locals->b ∉ X.fs->b ∉ frs X.stack:=fun b h1 h2 hb=>by
   rcases List.mem_cons.mp (I.Eb b hb) with e | e
   . exact h1 e
   . exact h2 e
 refine ⟨⟨I.ok.mod,S.kind,I.ok.glob,I.ok.blt,Nat.le_refl _,fun x y c h1 h2=>?_,fun x hx=>?_,fun x c hx h=>?_,I.ok.hd,I.ok.frames,.inl rfl,fun b hb=>⟨?_,fun x c h=>?_⟩,I.bs,Nat.le_trans I.ok.VB I.sz,fun b o e hb=>?_,fun b hb=>?_,I.stack,I.Hj⟩,
   rfl,I.bare,Un.kept kp,⟨fun _=>none,?_,fun i x v e1 e2 _=>aa3 S hX I (fun x c v _ hc=>hc.keeps kp) i x v e1 e2⟩,fun x c h=>?_,I.hok.fresh (Nat.le_refl _),fun x c h=>?_,fun p hp=>?_,I.hok.kept kp,?_⟩
 . rcases lJ S hX I h1 with ⟨m1,l1,_⟩ | ⟨m1,_⟩ <;> rcases lJ S hX I h2 with ⟨m2,l2,_⟩ | ⟨m2,_⟩
   . exact name_of_addr own1.apart m1 m2
   . exact absurd (Nat.lt_of_lt_of_le (ltC _ _ m2) (Nat.le_of_succ_le l1)) (Nat.lt_irrefl _)
   . exact absurd (Nat.lt_of_lt_of_le (ltC _ _ m1) (Nat.le_of_succ_le l2)) (Nat.lt_irrefl _)
   . exact I.ok.inj x y c m1 m2
 . have hx':(lH scope X.env.scope).names.lookup x=some .cell∨(lH scope X.env.scope).names.lookup x=some .free:=hx
   rw [kindB] at hx'
   cases q:scope.names.lookup x with
   | none=>rw [q] at hx'; rcases hx' with z | z <;> cases z
   | some k =>
     rw [q] at hx'
     cases k with
     | free=>obtain ⟨c,_,e⟩:=Bk S hX I q; exact ⟨c,e⟩
     | cell =>
       obtain ⟨c,e⟩:=uP (sc:=scope) (n:=s.heap.objs.size+1) q
       refine ⟨c,?_⟩
       show (cellsFrom (s.heap.objs.size+1) scope.names (gG X.env scope.names [])).lookup x=some c
       rw [eX,lookup_append,e]
     | _=>rcases hx' with z | z <;> cases z
 . have hx':(scope.names.lookup x == some .cell)=true:=hx
   rcases lJ S hX I h with ⟨_,l1,_⟩ | ⟨_,z⟩
   . show s.heap.objs.size<=c; omega
   . rw [z] at hx'; exact absurd hx' (by decide)
 . exact Nat.ne_of_lt (Z7 b hb)
 . rcases lJ S hX I h with ⟨_,l1,_⟩ | ⟨z,_⟩
   . intro z; rw [z] at l1; exact absurd (Nat.lt_of_lt_of_le (Z7 b hb) (Nat.le_of_succ_le l1)) (Nat.lt_irrefl _)
   . exact (hf b hb).2.2.2.2.1 x c z
 . rcases (hf b hb).2.2.2.1 with z | z
   . exact I.ok.MJ b o e z
   . exact absurd (Nat.lt_of_lt_of_le (Nat.lt_of_lt_of_le (Heap.lt_size e) I.ok.VB) z) (Nat.lt_irrefl _)
 . exact aa4 b (hf b hb).2.1 (hf b hb).2.2.1
 . exact (Heap.Ns.new s.heap (.type "dict")).keeps (pushCells_keeps _ _)
 . rcases lJ S hX I h with ⟨m1,_,_⟩ | ⟨z,_⟩
   . exact ⟨none,(own1.empty _ _ m1).1⟩
   . obtain ⟨v,q⟩:=I.cell x c z
     exact ⟨v,q.keeps kp⟩
 . rcases lJ S hX I h with ⟨_,l1,_⟩ | ⟨z,_⟩
   . exact I.hok.fresh (by omega)
   . exact I.m9 x c z
 . have hp':p∈X.pn++pins:=by
     rcases List.mem_append.mp hp with z | z
     . exact z
     . exact nomatch z
   obtain ⟨e,n,ne,nf,d⟩:=I.pin p hp'
   exact ⟨kp _ _ e,n,Nat.ne_of_lt (Heap.lt_size e),aa4 _ ne nf,d⟩
 . unfold HN
   show (own.map (fun _=>(none:Option V))++ix.map fun i=>(σ[i]?).getD none).length=(own++cap).length
   have z:=congrArg List.length S.ix
   rw [List.length_map,List.length_map] at z
   rw [List.length_append,List.length_append,List.length_map,List.length_map,z]
theorem J0 {g8 scope:Scope} {own cap:List Str} {ix:List Nat} {fp:List Addr} {pl:List (Addr × Obj)} {σ':St} {H':Hp} {s':Shared} (S:uh g8 scope X.N own cap ix) (hX:X.env.scope=g8) (I:Inv X pins σ H s) (hf:∀ b∈fp,mD X pins H b)
   (J:Inv (blk X scope (own++cap) (uy X pins s H scope fp)) pl σ' H' s'):Inv (blk X scope (own++cap) (uy X pins s H scope fp)) pl (HN own ix σ) H' s':=by
 obtain ⟨m,hn,_⟩:=id J.loc
 refine ⟨J.ok,J.os,J.bare,J.base,⟨m,hn,fun i x v e1 e2 _=>aa3 S hX I (fun x c v ec hc=>?_) i x v e1 e2⟩,J.cell,J.free,J.m9,J.pin,J.hok,?_⟩
 . obtain ⟨o,e,d⟩:=hc
   obtain ⟨sl,e'⟩:=J.base.any e (I.m9 x c ec) fun hb=>(hf c hb).2.2.2.2.1 x c ec rfl
   exact ⟨_,e',d⟩
 . have z:=congrArg List.length S.ix
   rw [List.length_map,List.length_map] at z
   show (HN own ix σ).length=(own++cap).length
   unfold HN
   rw [List.length_append,List.length_append,List.length_map,List.length_map,z]
theorem HY {scope:Scope} {own cap:List Str} {fp:List Addr} {σ':St} {H':Hp} {s':Shared} {h':Heap} (I:Inv X pins σ H s) (hf:∀ b∈fp,mD X pins H b)
   (J:Inv (blk X scope (own++cap) (uy X pins s H scope fp)) [] σ' H' s') (hs:Heap.SameBut s.heap.objs.size s'.heap h'):Inv X pins σ H' { s' with heap:=h' }:=by
 have I1:Inv X pins σ H' s':=I.call' (ch:=fp) J.os J.base J.hok J.bare fun b hb=>⟨(hf b hb).2.2.2.1,(hf b hb).2.1,(hf b hb).2.2.2.2.1,(hf b hb).2.2.2.2.2⟩
 have n1:s.heap.objs.size≠X.env.locals:=Nat.ne_of_gt I.lt
 refine I1.turned (it:=s.heap.objs.size) (t':=s'.toks) (fun b o hb e=>(hs.2 b hb).trans e) J.free n1 (.inr I.sz) (fun x c e z=>?_) fun p hp z=>?_
 . obtain ⟨v,o,e',_⟩:=I.cell x c e
   exact absurd z (Nat.ne_of_lt (Heap.lt_size e'))
 . exact absurd z (Nat.ne_of_lt (Heap.lt_size (I.pin p hp).1))
end
def Nm (X:Cx) (ifs:List Expr) (t:TT):Prop :=
 ∀ (pins:List (Addr × Obj)) (s:Shared) (σ:St) (H:Hp) (Q:Bool->Hp->Prop),Inv X pins σ H s->t σ H Q ->
   wpAny (model X.prog X.w) X.A (forIn ifs true fun c r=>if r=true then do let ok <- isTrue c X.env (eval c X.env); pure (ForInStep.yield ok) else pure (ForInStep.yield r)) (TP X pins σ Q) X.xe s
def En:TT:=fun _ H Q=>Q true H
theorem bU {X:Cx}:Nm X [] En:=fun _ _ _ H _ I h=>wpAny_tests_nil ⟨H,I,h⟩
def nY (J:It) (g:TG) (tt:TT) (act:St->Hp->(Hp->Prop)->Prop) (σ0:St) (End:Hp->Prop) (W:Nat->Nat->Hp->Prop):Prop :=
 ∀ i m H,W i m H->(J.stop i H/\End H)∨(J.go i H/\∀ x H',J.MP i H x H'->g x σ0 H' fun σ2 H2=>tt σ2 H2 fun b H3 =>
   if b=true then act σ2 H3 fun H4=>∃ m',m'<m/\W (i+1) m' H4 else ∃ m',m'<m/\W (i+1) m' H3)
def nZ (D:Addr) (te:TE):St->Hp->(Hp->Prop)->Prop:=fun σ H R=>te σ H fun y H4=>∃ zs,H4 D=some (.lst zs)/\zs.length<sizeLine/\R (upd H4 D (.lst (zs++[y])))
def Np (own:List Str) (ix:List Nat) (wi:TI) (g:BI->TG) (tt:BI->TT) (te:BI->TE):TE:=fun σ H Q=>wi σ H fun J H1=>∀ D,H1 D=none ->
 ∃ W:Nat->Nat->Hp->Prop,(∃ m,W 0 m (upd H1 D (.lst [])))/\∀ b,nY J (g b) (tt b) (nZ D (te b)) (HN own ix σ) (fun H'=>Q (.ref D) H') W
section
variable {X:Cx} {tg iter elt:Expr} {ifs:List Expr} {scope g8:Scope} {pos:Pos} {own cap:List Str} {ix:List Nat} {wi:TI} {g:BI->TG} {tt:BI->TT} {te:BI->TE}
theorem J1 {pins:List (Addr × Obj)} {σ:St} {H:Hp} {s:Shared} {J:It} {fp:List Addr} {it D:Addr} {tn:Nat->Heap->Prop} {End:Hp->Prop} {W:Nat->Nat->Hp->Prop} {m0:Nat} {s4:Shared}
   (S:uh g8 scope X.N own cap ix) (hX:X.env.scope=g8) (I:Inv X pins σ H s) (hf:∀ b∈fp,mD X pins H b) (hc:X.calm=true) (T:Turn X.prog X.w X.K tg J fp it tn)
   (hg:PG (blk X scope (own++cap) (uy X pins s H scope fp)) tg (g (uy X pins s H scope fp))) (ht:Nm (blk X scope (own++cap) (uy X pins s H scope fp)) ifs (tt (uy X pins s H scope fp)))
   (he:PE (blk X scope (own++cap) (uy X pins s H scope fp)) elt (te (uy X pins s H scope fp)))
   (hW:nY J (g (uy X pins s H scope fp)) (tt (uy X pins s H scope fp)) (nZ D (te (uy X pins s H scope fp))) (HN own ix σ) End W)
   (I4:Inv (blk X scope (own++cap) (uy X pins s H scope fp)) [] (HN own ix σ) H s4) (Xz:tn 0 s4.heap) (w0:W 0 m0 H) :
   codeAny (model X.prog X.w) X.A (.compLoop (.ListComp elt [⟨tg,iter,ifs,0⟩] scope pos) 0 (.ref it) (.ref D) (Bj scope (RB X s scope) s.heap.objs.size X.env))
     (fun r s'=>∃ H' σ',r=.ok .next/\Inv (blk X scope (own++cap) (uy X pins s H scope fp)) [] σ' H' s'/\End H') s4:=by
 have stat:∀ {H':Hp} {pl:List (Addr × Obj)},(∀ b∈fp,H' b=none)->(∀ p∈pl,p.1 ∉ fp)->∀ b∈fp,mD (blk X scope (own++cap) (uy X pins s H scope fp)) [] H' b:=fun hn _ b hb=>by
   refine ⟨hn b hb,(I4.ok.Z2 b hb).1,I4.ok.Jx b hb,.inl hb,(I4.ok.Z2 b hb).2,fun p hp=>?_⟩
   have hp':p∈X.pn++pins:=by
     rcases List.mem_append.mp hp with z | z
     . exact z
     . exact nomatch z
   exact (hf b hb).2.2.2.2.2 p hp'
 refine codeAny_loop rfl (fun n s'=>∃ i H',Inv (blk X scope (own++cap) (uy X pins s H scope fp)) [] (HN own ix σ) H' s'/\tn i s'.heap/\(∀ b∈fp,H' b=none)/\W i n H') ?_ m0 ⟨0,H,I4,Xz,fun b hb=>(hf b hb).1,w0⟩
 rintro n s3 ⟨i,H3,I3,st3,W8,w3⟩
 show wpAny _ X.A ((compTurn (.ListComp elt [⟨tg,iter,ifs,0⟩] scope pos) 0 (.ref it) (.ref D) (Bj scope (RB X s scope) s.heap.objs.size X.env)).onRaise (fun x=>do noteFrame x (Bj scope (RB X s scope) s.heap.objs.size X.env); theTreesLotGoes x)) _ _ s3
 refine wpAny_noted ?_
 rw [compTurn_list]
 have st0:=stat (pl:=[]) W8 (fun _ z=>nomatch z)
 rcases hW i n H3 w3 with ⟨stop,qe⟩ | ⟨go,step⟩
 . refine wpAny_bind (wpAny_standAt (wpAny_bind (eE (T.done (blk X scope (own++cap) (uy X pins s H scope fp)) rfl rfl rfl hc i [] s3 _ H3 _ I3 st0 st3 stop) fun r s5 ⟨hr,I5⟩=>?_)))
   subst hr
   exact wpAny_pure ⟨H3,_,rfl,I5,qe⟩
 . refine wpAny_bind (wpAny_standAt (wpAny_bind (eE (T.item (blk X scope (own++cap) (uy X pins s H scope fp)) rfl rfl rfl hc i [] s3 _ H3 _ I3 st0 st3 go) fun r s5 ⟨u,hr,h5⟩=>?_)))
   subst hr
   refine wpAny_bind (eE h5 fun _ s6 ⟨x,H6,I6,r6,y6,RD,fr6⟩=>?_)
   have I6':=I6.pinned (stat (pl:=[]) fr6 (fun _ z=>nomatch z)) (T.obj _ _ RD)
   refine wpAny_bind (wpAny_mono (hg _ s6 _ H6 x u _ I6' r6 (step x H6 y6)) (fun _ s7 ⟨σ7,H7,I7,q7⟩=>?_) fun _ _ f=>f.elim)
   refine wpAny_bind (wpAny_mono (ht _ s7 σ7 H7 _ I7 q7) (fun ok s8 ⟨H8,I8,q8⟩=>?_) fun _ _ f=>f.elim)
   have again:∀ {σ9:St} {H9:Hp} {s9:Shared} {m':Nat},Inv (blk X scope (own++cap) (uy X pins s H scope fp)) ([]++rH fp s6.heap) σ9 H9 s9->m'<n->W (i+1) m' H9 ->
       ∃ m,m<n/\∃ i H',Inv (blk X scope (own++cap) (uy X pins s H scope fp)) [] (HN own ix σ) H' s9/\tn i s9.heap/\(∀ b∈fp,H' b=none)/\W i m H':=fun {σ9 H9 s9 m'} I9 hm w9=>by
     refine ⟨m',hm,i+1,H9,J0 S hX I hf I9.nM,T.keep _ _ _ RD fun b hb o e=>(I9.pin (b,o) (List.mem_append_right _ (List.mem_append_right _ (jg hb e)))).1,fun b hb=>?_,w9⟩
     obtain ⟨o,e,d⟩:=T.obj _ _ RD b hb
     exact (I9.pin (b,o) (List.mem_append_right _ (List.mem_append_right _ (jg hb e)))).2.1
   cases ok with
   | false =>
     obtain ⟨m',hm,w9⟩:=q8
     exact wpAny_pure ⟨rfl,again I8 hm w9⟩
   | true =>
     refine wpAny_bind (wpAny_bind (wpAny_mono (he _ s8 σ7 H8 _ I8 q8) (fun y s9 ⟨v,H9,I9,r9,zs,hD,hz,m',hm,w9⟩=>?_) fun _ _ f=>f.elim))
     refine wpAny_bind (wpAny_mono (dD (X:=blk X scope (own++cap) (uy X pins s H scope fp)) _ s9 σ7 H9 (.ref D) [v] (.ref D) [y] (fun _ H'=>∃ m',m'<n/\W (i+1) m' H') I9 rfl (.cons r9 .nil) ⟨D,zs,v,rfl,rfl,hD,hz,m',hm,w9⟩) (fun _ Bl ⟨_,DW,I10,_,m'',hm',w10⟩=>?_) fun _ _ f=>f.elim)
     exact wpAny_pure (wpAny_pure ⟨rfl,again I10 hm' w10⟩)
theorem uX {pins:List (Addr × Obj)} {σ:St} {H:Hp} {s:Shared} {Q:VK} {use:Option (Value->Sem Unit)} {Q':Value->Shared->Prop} (hc:X.calm=true) (hX:X.env.scope=g8) (S:uh g8 scope X.N own cap ix) (hi:PI X tg iter wi)
   (hg:∀ b,PG (blk X scope (own++cap) b) tg (g b)) (ht:∀ b,Nm (blk X scope (own++cap) b) ifs (tt b)) (he:∀ b,PE (blk X scope (own++cap) b) elt (te b))
   (hs:∀ x,foldedSetIterable iter X.env x=pure x) (I:Inv X pins σ H s) (h:Np own ix wi g tt te σ H Q)
   (out:∀ (D C:Addr) (H':Hp) (s':Shared),Q (.ref D) H'->(∃ m,s'.heap.Ns C m)->mD X pins H' C->(∀ h',Heap.SameBut C s'.heap h'->Inv X pins σ H' { s' with heap:=h' }) ->
     compPost (model X.prog X.w) X.A X.xe use Q' (.ref D) C (.ok .next) s') :
   wpAny (model X.prog X.w) X.A (comprehension (.ListComp elt [⟨tg,iter,ifs,0⟩] scope pos) scope X.env (firstIterPos [⟨tg,iter,ifs,0⟩] pos) (newList []) false (eval iter X.env) use) Q' X.xe s:=by
 have hclos:=pQ (scope:=scope) (env:=X.env) fun y hy hk=>by
   have hf:=S.free y hy hk
   rw [<- hX] at hf
   exact I.ok.has y.1 hf
 refine wpAny_comprehension_free (use:=use) rfl hs hclos S.kind (fun y hy hk=>by rw [S.nm y hy,hk]) (eE (hi pins s σ H _ I h) fun v s1 h1=>eE h1 fun itv s2 h2=>?_)
 obtain ⟨it,fp,tn,J,H2,e,I2,T,st2,f2,hR⟩:=h2
 subst e
 refine wpAny_newObj_type ?_
 obtain ⟨W,⟨m0,w0⟩,hW⟩:=hR s2.heap.objs.size I2.fresh
 have I3:Inv X pins σ (upd H2 s2.heap.objs.size (.lst [])) { s2 with heap:=s2.heap.push { cls:=.type "list",data:=.seq ([]:List Value).toArray } }:=I2.Xr (t':=s2.toks) (its:=[]) .nil (Nat.zero_le _)
 have Z7:∀ b∈fp,b<s2.heap.objs.size:=fun b hb=>let ⟨_,e,_⟩:=T.obj _ _ st2 b hb; Heap.lt_size e
 have f3:∀ b∈fp,mD X pins (upd H2 s2.heap.objs.size (.lst [])) b:=fun b hb=>⟨by rw [aL (Nat.ne_of_lt (Z7 b hb))]; exact (f2 b hb).1,(f2 b hb).2⟩
 have st3:tn 0 (s2.heap.push { cls:=.type "list",data:=.seq ([]:List Value).toArray }):=T.keep _ _ _ st2 fun b hb o e=>Heap.get?_push_of_some _ e
 generalize hs3:({ s2 with heap:=s2.heap.push { cls:=.type "list",data:=.seq ([]:List Value).toArray } }:Shared)=s3 at I3
 have Nq:tn 0 s3.heap:=by rw [<- hs3]; exact st3
 have ob3:∀ b∈fp,∃ o,s3.heap.get? b=some o:=fun b hb=>let ⟨o,e,_⟩:=T.obj _ _ Nq b hb; ⟨o,e⟩
 have I4:=HX S hX I3 f3 ob3
 have Xz:tn 0 (Xy s3 scope):=T.keep _ _ _ Nq fun b _ o e=>rN s3 scope b o e
 refine uW ?_
 have loop:=J1 (iter:=iter) (pos:=pos) S hX I3 f3 hc T (hg _) (ht _) (he _) (hW _) I4 Xz w0
 have fin:codeAny (model X.prog X.w) X.A (.compLoop (.ListComp elt [⟨tg,iter,ifs,0⟩] scope pos) 0 (.ref it) (.ref s2.heap.objs.size) (Bj scope (RB X s3 scope) s3.heap.objs.size X.env))
     (compPost (model X.prog X.w) X.A X.xe use Q' (.ref s2.heap.objs.size) s3.heap.objs.size) { s3 with heap:=Xy s3 scope }:=codeAny_mono loop fun r s' ⟨H',σ',hr,J',q⟩=>by
   subst hr
   exact out _ _ H' s' q (let ⟨m,hn,_⟩:=J'.loc; ⟨m,hn⟩) (I3.Ba (Nat.le_refl _) J'.free) fun h' hh=>HY I3 f3 J' hh
 exact codeAny_compStart_list fin (T.self _ 0 _ _ _ Xz fin)
theorem dJ (hc:X.calm=true) (hX:X.env.scope=g8) (S:uh g8 scope X.N own cap ix) (hi:PI X tg iter wi) (hg:∀ b,PG (blk X scope (own++cap) b) tg (g b)) (ht:∀ b,Nm (blk X scope (own++cap) b) ifs (tt b))
   (he:∀ b,PE (blk X scope (own++cap) b) elt (te b)) (hs:∀ x,foldedSetIterable iter X.env x=pure x:=by intro _; rfl) :
   PE X (.ListComp elt [⟨tg,iter,ifs,0⟩] scope pos) (Np own ix wi g tt te):=by
 intro pins s σ H Q I h
 rw [eval_ListComp]
 refine uX (use:=none) hc hX S hi hg ht he hs I h fun D C H' s' q hn _ hI=>?_
 obtain ⟨m,hn⟩:=hn
 exact ⟨m,hn,fun h' hh=>⟨.ref D,H',hI h' hh,rfl,q⟩⟩
theorem qg {i:Nat} {x:Str} {pos' spos:Pos} (hN:X.N.Nodup) (hx1:X.N[i]?=some x) (hx:X.env.scope.names.lookup x=some .local) (hc:X.calm=true) (hX:X.env.scope=g8) (S:uh g8 scope X.N own cap ix) (hi:PI X tg iter wi)
   (hg:∀ b,PG (blk X scope (own++cap) b) tg (g b)) (ht:∀ b,Nm (blk X scope (own++cap) b) ifs (tt b)) (he:∀ b,PE (blk X scope (own++cap) b) elt (te b)) (hs:∀ x,foldedSetIterable iter X.env x=pure x:=by intro _; rfl)
   (hsw:swapsWith (.ListComp elt [⟨tg,iter,ifs,0⟩] scope pos) (some (.Name x pos')) spos.line X.env=pure true:=by rfl) :
   PS X (.Assign [.Name x pos'] (.ListComp elt [⟨tg,iter,ifs,0⟩] scope pos) spos) (nJ (Np own ix wi g tt te) (jE i)):=by
 intro pins s σ H D I h
 rw [exec_Assign_Name_used _ _ _ _ hsw]
 refine wpAny_bind (wpAny_standAt (wpAny_bind ?_))
 show wpAny _ X.A (do let _ <- comprehension (.ListComp elt [⟨tg,iter,ifs,0⟩] scope pos) scope X.env _ (newList []) false (eval iter X.env) (some (assign (.Name x pos') X.env))) _ _ s
 refine wpAny_bind (wpAny_mono (uX (use:=some (assign (.Name x pos') X.env)) (Q':=fun _ s'=>SP X pins D .next s') hc hX S hi hg ht he hs I h fun D1 C H' s' q hn fC hI=>?_) (fun _ s' hq=>wpAny_pure (wpAny_pure hq)) fun _ _ e=>e)
 obtain ⟨m,hn⟩:=hn
 have I0:Inv X pins σ H' s':=by
   have z:=hI s'.heap (Heap.SameBut.refl ..)
   exact z
 show wpAny _ X.A (assign (.Name x pos') X.env (.ref D1)) _ _ _
 refine wpAny_assign_Name (wO I0 hN hx1 (.inl hx) (show RelV (.ref D1) (.ref D1) from rfl) (fun s2 I2 ⟨a,sb,ha⟩=>?_) (.inr hx))
 have na:C≠a:=by
   rcases ha with e | e
   . rw [e]; exact fC.2.1
   . intro z; exact fC.2.2.2.2.1 x a e z.symm
 refine ⟨m,hn.sameBut sb na,fun h' hh=>?_⟩
 refine ⟨_,H',?_,q⟩
 exact I2.turned (it:=C) (t':=s2.toks) (fun b o hb e=>(hh.2 b hb).trans e) fC.1 fC.2.1 fC.2.2.2.1 fC.2.2.2.2.1 fC.2.2.2.2.2
end
end L2
namespace L2
open PySem PySem.Spec PyProof.Rows
def Its (x:Str):It:=⟨fun i _=>i<x.cps.size,fun i H v H'=>H'=H/\∃ c,x.cps[i]?=some c/\v=.str ⟨#[c]⟩,fun i _=>x.cps.size<=i⟩
theorem J2 {P:Program} {w:World} {K:PySem.W.Frag} {tg:Expr} (it:Addr) (x:Str) (t:Tok):Turn P w K tg (Its x) [it] it (fun i h=>h.IsStrIter it "str_ascii_iterator" x t i) where
 mem:=by simp
 obj:=fun i h st b hb=>by
   have e:b=it:=by simpa using hb
   subst e
   obtain ⟨o,e,c,d⟩:=st
   exact ⟨o,e,fun v z=>by rw [d] at z; cases z⟩
 keep:=fun i h h' st k=>let ⟨o,e,r⟩:=st; ⟨o,k it (by simp) o e,r⟩
 item:=by
   intro X hP hw hK hc i pins s σ H E I hf st hg
   subst hP hw hK
   have hg':i<x.cps.size:=hg
   obtain ⟨f0,f1,f2,f3,f4,f5⟩:=hf it (by simp)
   refine wpAny_pyNext_ascii_item st (c:=x.cps[i]) (by simp [hg']) fun h' st' sb=>?_
   have I1:Inv X pins σ H { s with heap:=h',toks:=s.toks+1 }:=I.turned (fun b o hb e=>(sb.2 b hb).trans e) f0 f1 f3 f4 f5
   obtain ⟨o,e,c,d⟩:=id st'
   exact ⟨_,rfl,uO (s:={ s with heap:=h',toks:=s.toks+1 }) e c d (by decide) ⟨.str ⟨#[x.cps[i]]⟩,H,I1,⟨_,rfl⟩,⟨rfl,_,by simp [hg'],rfl⟩,st',fun b hb=>(hf b hb).1⟩⟩
 done:=by
   intro X hP hw hK hc i pins s σ H E I hf st hg
   subst hP hw hK
   have hg':x.cps.size<=i:=hg
   obtain ⟨f0,f1,f2,f3,f4,f5⟩:=hf it (by simp)
   exact wpAny_pyNext_ascii_end (I.ok.hd hc) st (by simp [hg']) fun h' eb=>⟨rfl,I.turned (t':=s.toks) (fun b o hb e=>eb b o hb e) f0 f1 f3 f4 f5⟩
 self:=fun _ _ _ _ _ st h=>wpAny_pyIter_striter_ascii st h
theorem J3 {P:Program} {w:World} {K:PySem.W.Frag} {tg:Expr} (it:Addr) (x:Str) (t:Tok):Turn P w K tg (Its x) [it] it (fun i h=>h.IsStrIter it "str_iterator" x t i) where
 mem:=by simp
 obj:=fun i h st b hb=>by
   have e:b=it:=by simpa using hb
   subst e
   obtain ⟨o,e,c,d⟩:=st
   exact ⟨o,e,fun v z=>by rw [d] at z; cases z⟩
 keep:=fun i h h' st k=>let ⟨o,e,r⟩:=st; ⟨o,k it (by simp) o e,r⟩
 item:=by
   intro X hP hw hK hc i pins s σ H E I hf st hg
   subst hP hw hK
   have hg':i<x.cps.size:=hg
   obtain ⟨f0,f1,f2,f3,f4,f5⟩:=hf it (by simp)
   refine wpAny_pyNext_wide_item st (c:=x.cps[i]) (by simp [hg']) fun h' st' sb=>?_
   have I1:Inv X pins σ H { s with heap:=h',toks:=s.toks+1 }:=I.turned (fun b o hb e=>(sb.2 b hb).trans e) f0 f1 f3 f4 f5
   obtain ⟨o,e,c,d⟩:=id st'
   exact ⟨_,rfl,uO (s:={ s with heap:=h',toks:=s.toks+1 }) e c d (by decide) ⟨.str ⟨#[x.cps[i]]⟩,H,I1,⟨_,rfl⟩,⟨rfl,_,by simp [hg'],rfl⟩,st',fun b hb=>(hf b hb).1⟩⟩
 done:=by
   intro X hP hw hK hc i pins s σ H E I hf st hg
   subst hP hw hK
   have hg':x.cps.size<=i:=hg
   obtain ⟨f0,f1,f2,f3,f4,f5⟩:=hf it (by simp)
   exact wpAny_pyNext_wide_end (I.ok.hd hc) st (by simp [hg']) fun h' eb=>⟨rfl,I.turned (t':=s.toks) (fun b o hb e=>eb b o hb e) f0 f1 f3 f4 f5⟩
 self:=fun _ _ _ _ _ st h=>wpAny_pyIter_striter_wide st h
def aey (tl:TE):TI:=fun σ H R=>tl σ H fun x H1=>∃ z,x=.str z/\R (Its z) H1
theorem XC {X:Cx} {tg l:Expr} {tl:TE} (hl:PE X l tl):PI X tg l (aey tl):=by
 intro pins s σ H R I h
 refine eE (hl pins s σ H _ I h) fun v s1 ⟨x,H1,I1,r1,q1⟩=>?_
 obtain ⟨z,e,q⟩:=q1
 subst e
 obtain ⟨t,rfl⟩:=r1
 have fp:∀ b∈[s1.heap.objs.size],mD X pins H1 b:=fun b hb=>by
   have e:b=s1.heap.objs.size:=by simpa using hb
   subst e
   exact I1.Ba (Nat.le_refl _) (I1.hok.fresh (Nat.le_refl _))
 cases ha:z.cps.all (·<128)
 . exact wpAny_pyIter_wide ha ⟨s1.heap.objs.size,[s1.heap.objs.size],_,_,H1,rfl,I1.kept (t':=s1.toks) fun b o e=>Heap.get?_push_of_some _ e,J3 _ z t,⟨_,Heap.get?_push_size _ rfl,rfl,rfl⟩,fp,q⟩
 . exact wpAny_pyIter_ascii ha ⟨s1.heap.objs.size,[s1.heap.objs.size],_,_,H1,rfl,I1.kept (t':=s1.toks) fun b o e=>Heap.get?_push_of_some _ e,J2 _ z t,⟨_,Heap.get?_push_size _ rfl,rfl,rfl⟩,fp,q⟩
section
variable {X:Cx}
theorem J4:iD X (compareOp .LtE) (fun x y H Q=>∃ i j,x=.str i/\y=.str j/\Q (.bl (!decide (j.cps.toList<i.cps.toList))) H):=by
 intro pins s σ H x y v u Q I rx ry h
 obtain ⟨i,j,rfl,rfl,q⟩:=h
 obtain ⟨t,rfl⟩:=rx
 obtain ⟨t',rfl⟩:=ry
 exact PySem.P.le_str ⟨.bl _,H,I,rfl,q⟩
theorem Bm {v:Value} {o:Option Int} (p:IsPart v o):∃ l:Option (Int × Tok),v=partValue l/\l.map (·.1)=o:=by
 cases p with
 | none=>exact ⟨none,rfl,rfl⟩
 | int i t=>exact ⟨some (i,t),rfl,rfl⟩
theorem XD:Xk X (fun x lo hi H Q=>∃ z,x=.str z/\z.length<=sizeLine/\Q (.str (Txt.slice z lo hi)) H):=by
 intro pins s σ H x v vl vu lo hi sl Q I rx hs pl pu h
 obtain ⟨z,rfl,hz,q⟩:=h
 obtain ⟨t,rfl⟩:=rx
 obtain ⟨l,e1,f1⟩:=Bm pl
 obtain ⟨u,e2,f2⟩:=Bm pu
 subst e1 e2 f1 f2
 refine ⟨"str",_,F.slot_str_getitem.lookup,typeIs_str _ _ _,wpAny_getItem_str_slice (l:=l) (u:=u) (st:=none) hs rfl ?_⟩
 exact post_val_or_str ⟨Nat.le_trans (Txt.slice_le z _ _) hz,fun t' k=>⟨.str (Txt.slice z _ _),H,I.tok k,⟨t',rfl⟩,q⟩⟩
theorem Ss:∀ {ys:List Str} {us:List Value},Vals (ys.map V.str) us->StrsAre us ys:=by
 intro ys
 induction ys with
 | nil=>intro us r; rw [List.map_nil] at r; cases r; exact .nil
 | cons y ys ih =>
   intro us r
   rw [List.map_cons] at r
   cases r with
   | cons r1 r2 =>
     obtain ⟨t,e⟩:=r1
     subst e
     exact .cons y t (ih r2)
theorem Nr:MtR X "str.upper" (fun x xs H Q=>∃ z,x=.str z/\xs=[]/\z.length<=5592405/\Q (.str (Txt.upper z)) H):=by
 intro pins s σ H x xs v us Q I rx rs h
 obtain ⟨z,rfl,rfl,hz,q⟩:=h
 obtain ⟨t,rfl⟩:=rx
 cases rs
 exact SCL.upper hz fun _=>⟨.str _,H,I.tok _,⟨_,rfl⟩,q⟩
theorem Bo:∀ {bs:List Bool} {us:List Value},Vals (bs.map V.bl) us->LSm.BoolsAre us bs:=by
 intro bs
 induction bs with
 | nil=>intro us r; rw [List.map_nil] at r; cases r; exact .nil
 | cons b bs ih =>
   intro us r
   rw [List.map_cons] at r
   cases r with
   | cons r1 r2 =>
     have e:_=Value.bool b:=r1
     subst e
     exact .cons b (ih r2)
theorem jA (hc:X.calm=true):gC X (.builtin "all") (fun xs H Q=>∃ (p:Addr) (bs:List Bool),xs=[.ref p]/\dg X.K H p (bs.map V.bl)/\Q (.bl (bs.all id)) H):=by
 intro pins s σ H xs us Q I r h
 obtain ⟨p,bs,rfl,hq,q⟩:=h
 obtain ⟨u,rfl,ru⟩:=vals1 r
 cases ru
 obtain ⟨its,rv,pl,_⟩:=I.list hq
 have hb:=Bo rv
 have hl:=pl.isList
 have hlt:p<s.heap.objs.size:=by obtain ⟨_,e,_⟩:=hl; exact Heap.lt_size e
 refine call_all_walk (wpAny_pyIter_list hl ?_)
 refine ⟨s.heap.objs.size,[s.heap.objs.size,p],[s.heap.objs.size],its.toArray.size,_,_,fun i=>(bs[i]?).getD true,rfl,Walks.list (A:=X.A.in1) (I.ok.hd hc) _ p (Nat.ne_of_lt hlt) its.toArray,
   ⟨⟨_,Heap.get?_push_size _ rfl,rfl,rfl⟩,hl.push _⟩,fun i v s' Q' E' hP hQ=>?_,fun h' tk hk=>?_⟩
 . obtain ⟨b,e,rfl⟩:=hb.get i v (by simpa using hP)
   simp only [e,Option.getD_some] at hQ
   exact wpAny_truthy_bool hQ
 . have e:((List.range its.toArray.size).all fun i=>(bs[i]?).getD true)=bs.all id:=by
     rw [List.size_toArray,hb.length]; exact LSm.range_all bs
   rw [e]
   exact ⟨.bl _,H,I.kept (LSm.kept_iter hk),rfl,q⟩
theorem oh:gC X (.builtin "isinstance") (fun xs H Q=>∃ x n t b,xs=[x,.ty n]/\jJ X.K H x t/\PySem.W.kitOne X.K t (.type n)=some b/\Q (.bl b) H):=by
 intro pins s σ H xs us Q I r h
 obtain ⟨x,n,t,b,rfl,ty,e,q⟩:=h
 obtain ⟨u,w',rfl,rx,ry⟩:=vals2 r
 have ry':w'=Value.type n:=ry
 subst ry'
 exact JK I rx ty e fun tk=>⟨.bl b,H,I.tok tk,rfl,q⟩
mutual
inductive Dp (K:PySem.W.Frag) (H:Hp):V->PyData->Prop
 | non:Dp K H .non .none
 | bl (b:Bool):Dp K H (.bl b) (.bool b)
 | int (i:Int):Dp K H (.int i) (.int i)
 | str (x:Str):Dp K H (.str x) (.str x)
 | lst {a:Addr} {xs:List V} {ds:List PyData}:dg K H a xs->RG K H xs ds->Dp K H (.ref a) (.list ds)
 | tup {a:Addr} {xs:List V} {ds:List PyData}:bM K H a xs->RG K H xs ds->Dp K H (.ref a) (.tuple ds)
inductive RG (K:PySem.W.Frag) (H:Hp):List V->List PyData->Prop
 | nil:RG K H [] []
 | cons {x:V} {xs:List V} {d:PyData} {ds:List PyData}:Dp K H x d->RG K H xs ds->RG K H (x :: xs) (d :: ds)
end
mutual
theorem Dp.reads {pins:List (Addr × Obj)} {σ:St} {H:Hp} {s:Shared} (I:Inv X pins σ H s):∀ {x:V} {d:PyData} {u:Value},Dp X.K H x d->RelV x u->∃ as,Reads s.heap u d as
 | _,_,_,.non,r=>by cases (show _=Value.none from r); exact ⟨_,.none⟩
 | _,_,_,.bl b,r=>by cases (show _=Value.bool b from r); exact ⟨_,.bool b⟩
 | _,_,_,.int i,r=>by obtain ⟨t,rfl⟩:=(show ∃ t,_=Value.int i t from r); exact ⟨_,.int i t⟩
 | _,_,_,.str x,r=>by obtain ⟨t,rfl⟩:=(show ∃ t,_=Value.str x t from r); exact ⟨_,.str x t⟩
 | _,_,_,.lst (a:=a) hq h,r=>by
   cases (show _=Value.ref a from r)
   obtain ⟨its,rv,pl,_⟩:=I.list hq
   obtain ⟨as,q⟩:=RG.reads I h rv
   obtain ⟨o,ho,hc,n,hd⟩:=pl.isList
   exact ⟨_,.list ho hc hd (by simpa using q)⟩
 | _,_,_,.tup (a:=a) hq h,r=>by
   cases (show _=Value.ref a from r)
   obtain ⟨its,rv,pl,_⟩:=I.tuple hq
   obtain ⟨as,q⟩:=RG.reads I h rv
   obtain ⟨o,ho,hc,n,hd⟩:=pl
   exact ⟨_,.tuple ho hc hd (by simpa using q)⟩
theorem RG.reads {pins:List (Addr × Obj)} {σ:St} {H:Hp} {s:Shared} (I:Inv X pins σ H s):∀ {xs:List V} {ds:List PyData} {us:List Value},RG X.K H xs ds->Vals xs us->∃ as,ReadsAll s.heap us ds as
 | _,_,_,.nil,r=>by cases r; exact ⟨_,.nil⟩
 | _,_,_,.cons h1 h2,r=>by
   cases r with
   | cons r1 r2 =>
     obtain ⟨as,q1⟩:=Dp.reads I h1 r1
     obtain ⟨bs,q2⟩:=RG.reads I h2 r2
     exact ⟨_,.cons q1 q2⟩
end
def aez (K:PySem.W.Frag):R2:=fun x y H Q=>∃ d e,Dp K H x d/\Dp K H y e/\SeqAt.shaped d=true/\SeqAt.shaped e=true/\Q (.bl (PyData.eqv d e)) H
def aa5 (K:PySem.W.Frag):R2:=fun x y H Q=>∃ d e,Dp K H x d/\Dp K H y e/\SeqAt.shaped d=true/\SeqAt.shaped e=true/\Q (.bl (!PyData.eqv d e)) H
theorem XF (hu:X.A.units+64<cLine):iD X (compareOp .Eq) (aez X.K):=by
 intro pins s σ H x y v u Q I rx ry h
 obtain ⟨d,e,hd,he,sd,se,q⟩:=h
 obtain ⟨as,ra⟩:=hd.reads I rx
 obtain ⟨bs,rb⟩:=he.reads I ry
 exact eq_dataH ra rb sd se hu ⟨.bl _,H,I,rfl,q⟩
theorem XH (hu:X.A.units+64<cLine):iD X (compareOp .NotEq) (aa5 X.K):=by
 intro pins s σ H x y v u Q I rx ry h
 obtain ⟨d,e,hd,he,sd,se,q⟩:=h
 obtain ⟨as,ra⟩:=hd.reads I rx
 obtain ⟨bs,rb⟩:=he.reads I ry
 exact ne_dataH ra rb sd se hu ⟨.bl _,H,I,rfl,q⟩
end
end L2
namespace L2
open PySem PySem.Spec PyProof.Rows
section
variable {X:Cx} {a b c:Expr} {ta tb tc:TE} {pos:Pos}
def tV (i:Nat):TE:=fun σ H Q=>match σ[i]? with
 | some (some v)=>Q v H
 | _=>False
theorem pV (i:Nat) {x:Str} {pos:Pos} (hN:X.N[i]?=some x:=by rfl) (hv:Vis X.env.scope x:=by first | exact Or.inl rfl | exact Or.inr (Or.inl rfl) | exact Or.inr (Or.inr rfl)) (hd:(x == ("__debug__" : Str))=false:=by decide)
   (hcd:(x == ("__classdict__" : Str))=false:=by decide):PE X (.Name x pos) (tV i):=by
 intro pins s σ H Q I h
 refine WT hN hv hd hcd pins s σ H Q I ?_
 unfold tV at h
 cases e:σ[i]? with
 | none=>rw [e] at h; exact h.elim
 | some o =>
   rw [e] at h
   cases o with
   | none=>exact h.elim
   | some v=>exact ⟨v,e,h⟩
def fI (g:Int->Int->V):R2:=fun x y H Q=>match x,y with
 | .int i,.int j=>Q (g i j) H
 | _,_=>False
def Mv (C:Int->Int->Prop) (g:Int->Int->V):R2:=fun x y H Q=>match x,y with
 | .int i,.int j=>C i j/\Q (g i j) H
 | _,_=>False
theorem iD.fI {f:Value->Value->Sem Value} {g:Int->Int->V} (h:iD X f (Rz g)):iD X f (fI g):=by
 intro pins s σ H x y v u Q I rx ry q
 refine h pins s σ H x y v u Q I rx ry ?_
 cases x <;> cases y <;> first | exact ⟨_,_,rfl,rfl,q⟩ | exact (show False from q).elim
theorem iD.Mv {f:Value->Value->Sem Value} {C:Int->Int->Prop} {g:Int->Int->V} (h:iD X f (rI C g)):iD X f (Mv C g):=by
 intro pins s σ H x y v u Q I rx ry q
 refine h pins s σ H x y v u Q I rx ry ?_
 cases x <;> cases y <;> first | exact ⟨_,_,rfl,rfl,q.1,q.2⟩ | exact (show False from q).elim
theorem gF:iD X (binaryOp .Add) (fI fun i j=>.int (i+j)):=Xa.fI
theorem jB:iD X (binaryOp .Sub) (fI fun i j=>.int (i-j)):=Xb.fI
theorem XJ:iD X (binaryOp .Mult) (Mv RT fun i j=>.int (i * j)):=Xc.Mv
theorem oMod:iD X (binaryOp .Mod) (Mv (fun _ j=>0<j) fun i j=>.int (i % j)):=Xd.Mv
def VN (_ j:Int):Prop:=0<j/\j<4611686018427387904
theorem Nt:iD X (binaryOp .FloorDiv) (rI VN fun i j=>.int (i / j)):=Z5 fun i j _ _ _ _ _ hc q=>by
 have h1:(0:Int)<j:=hc.1
 have h2:j<4611686018427387904:=hc.2
 refine floordiv_int (by omega) (by rw [Int.fdiv_eq_ediv_of_nonneg i (by omega)]; exact q) (.inl (PyProof.noPylong_of_log2 ?_))
 have h3:j.natAbs≠0:=by omega
 have h4:j.natAbs<2 ^ 62:=by omega
 have:=(Nat.log2_lt h3).mpr h4
 omega
theorem oDiv:iD X (binaryOp .FloorDiv) (Mv VN fun i j=>.int (i / j)):=Nt.Mv
theorem aa6:iD X (binaryOp .Pow) (Mv aaK fun i j=>.int (i ^ j.toNat)):=Xe.Mv
theorem oLt:iD X (compareOp .Lt) (fI fun i j=>.bl (decide (i<j))):=aaN.fI
theorem oLe:iD X (compareOp .LtE) (fI fun i j=>.bl (decide (i<=j))):=aaO.fI
theorem Sv:iD X (compareOp .Gt) (fI fun i j=>.bl (decide (j<i))):=aaP.fI
theorem oGe:iD X (compareOp .GtE) (fI fun i j=>.bl (decide (j<=i))):=aaQ.fI
theorem XM:iD X (compareOp .Eq) (Rz fun i j=>.bl (decide (i=j))):=M6 fun _ _ _ _ _ _ _ q=>eq_int (by rw [Bool.beq_eq_decide_eq]; exact q)
theorem oEq:iD X (compareOp .Eq) (fI fun i j=>.bl (decide (i=j))):=XM.fI
theorem J5:UnR X (unaryOp .USub) (fun x H Q=>match x with | .int i=>Q (.int (-i)) H | _=>False):=by
 intro pins s σ H x v Q I rx h
 cases x with
 | int i=>obtain ⟨t,rfl⟩:=rx; exact neg_int ⟨.int (-i),H,I.tok _,⟨_,rfl⟩,h⟩
 | _=>exact (show False from h).elim
def fS (g:Str->Str->V):R2:=fun x y H Q=>match x,y with
 | .str i,.str j=>Q (g i j) H
 | _,_=>False
theorem aa7:iD X (compareOp .LtE) (fS fun i j=>.bl (!decide (j.cps.toList<i.cps.toList))):=by
 intro pins s σ H x y v u Q I rx ry q
 refine J4 pins s σ H x y v u Q I rx ry ?_
 cases x <;> cases y <;> first | exact ⟨_,_,rfl,rfl,q⟩ | exact (show False from q).elim
def aeA:R2:=fun x y H Q=>match x,y with
 | .str i,.str j=>i.length+j.length<=sizeLine/\Q (.str (i++j)) H
 | _,_=>False
theorem XQ:iD X (binaryOp .Add) aeA:=by
 intro pins s σ H x y v u Q I rx ry q
 refine Eh pins s σ H x y v u Q I rx ry ?_
 cases x <;> cases y <;> first | exact ⟨_,_,rfl,rfl,q.1,q.2⟩ | exact (show False from q).elim
def bF (Q:Bool->Hp->Prop):VK:=fun x H=>match x with
 | .bl k=>Q k H
 | _=>False
def tF (t:TE):TT:=fun σ H Q=>t σ H (bF Q)
theorem VP {Q:Bool->Hp->Prop} {x:V} {H:Hp} (h:bF Q x H):∃ k,x=.bl k/\Q k H:=by
 cases x with
 | bl k=>exact ⟨k,rfl,h⟩
 | _=>exact (show False from h).elim
theorem sZ {op:CmpOp} {r:R2} (ho:iD X (compareOp op) r) (ha:PE X a ta) (hb:PE X b tb) (hm:behindInMarks op b=false):PT X (.Compare a [op] [b] pos) (tF (wQ r ta tb)):=by
 intro pins s σ H Q I h
 refine wpAny_isTrue_Compare1 (eE (ha pins s σ H _ I h) fun v s1 ⟨x,H1,I1,r1,q1⟩=>eE (hb pins s1 σ H1 _ I1 q1) fun u s2 ⟨y,H2,I2,r2,q2⟩ =>
   eE (ho pins s2 σ H2 x y v u _ I2 r1 r2 q2) fun c s3 ⟨z,H3,I3,r3,q3⟩=>?_) hm
 obtain ⟨k,e,q⟩:=VP q3
 subst e
 cases r3
 exact wpAny_truthy_bool ⟨H3,I3,q⟩
theorem iY {e:Expr} {t:TE} (h:PE X e t) (he:∀ whole,isTrue e X.env whole=(do let v <- whole; standAt e.pos; holding [v] (truthy v)):=by intro _; rfl):PT X e (tF t):=by
 intro pins s σ H Q I hw
 refine isTrue_plain (eE (h pins s σ H _ I hw) fun v s1 ⟨x,H1,I1,r1,q1⟩=>?_) (he _)
 obtain ⟨d,rfl,q⟩:=VP q1
 cases r1
 exact wpAny_truthy_bool ⟨H1,I1,q⟩
def aa8 (r r':R2) (ta tb tc:TE):TE:=fun σ H Q=>ta σ H fun x H1=>tb σ H1 fun y H2=>r x y H2 (bF fun k H3=>if k=true then tc σ H3 fun w' H4=>r' y w' H4 Q else Q (.bl false) H3)
theorem aeB {op op':CmpOp} {r r':R2} (ho:iD X (compareOp op) r) (ho':iD X (compareOp op') r') (ha:PE X a ta) (hb:PE X b tb) (hc:PE X c tc)
   (hm:lastMarks [op,op'] [b,c]=false:=by with_unfolding_all rfl):PE X (.Compare a [op,op'] [b,c] pos) (aa8 r r' ta tb tc):=by
 intro pins s σ H Q I h
 refine Compare_chain (eE (ha pins s σ H _ I h) fun v s1 ⟨x,H1,I1,r1,q1⟩=>chain_link (eE (hb pins s1 σ H1 _ I1 q1) fun u s2 ⟨y,H2,I2,r2,q2⟩ =>
   eE (ho pins s2 σ H2 x y v u _ I2 r1 r2 q2) fun d s3 ⟨z,H3,I3,r3,q3⟩=>?_)) hm
 obtain ⟨k,e,q3⟩:=VP q3
 subst e
 cases r3
 refine wpAny_truthy_bool ?_
 cases k with
 | false=>exact ite_ff ⟨.bl false,H3,I3,rfl,q3⟩
 | true=>exact ite_tt (chain_last (eE (hc pins s3 σ H3 _ I3 q3) fun w' s4 ⟨z',H4,I4,r4,q4⟩=>ho' pins s4 σ H4 y z' u w' Q I4 r2 r4 q4))
theorem aeC {op op':CmpOp} {r r':R2} (ho:iD X (compareOp op) r) (ho':iD X (compareOp op') r') (ha:PE X a ta) (hb:PE X b tb) (hc:PE X c tc)
   (hm:lastMarks [op,op'] [b,c]=false:=by with_unfolding_all rfl):PT X (.Compare a [op,op'] [b,c] pos) (tF (aa8 r r' ta tb tc)):=by
 intro pins s σ H Q I h
 refine isTrue_chain (eE (ha pins s σ H _ I h) fun v s1 ⟨x,H1,I1,r1,q1⟩=>test_link (eE (hb pins s1 σ H1 _ I1 q1) fun u s2 ⟨y,H2,I2,r2,q2⟩ =>
   eE (ho pins s2 σ H2 x y v u _ I2 r1 r2 q2) fun d s3 ⟨z,H3,I3,r3,q3⟩=>?_)) hm
 obtain ⟨k,e,q3⟩:=VP q3
 subst e
 cases r3
 refine wpAny_truthy_bool ?_
 cases k with
 | false=>exact ite_ff ⟨H3,I3,q3⟩
 | true =>
   refine ite_tt (test_last (eE (hc pins s3 σ H3 _ I3 q3) fun w' s4 ⟨z',H4,I4,r4,q4⟩=>eE (ho' pins s4 σ H4 y z' u w' _ I4 r2 r4 q4) fun d' s5 ⟨z2,H5,I5,r5,q5⟩=>?_))
   obtain ⟨k2,e2,q5⟩:=VP q5
   subst e2
   cases r5
   exact wpAny_truthy_bool ⟨H5,I5,q5⟩
variable {rest:List Expr}
def aa9 (ta tb:TE):TE:=fun σ H Q=>ta σ H (bF fun c H1=>if c=true then tb σ H1 Q else Q (.bl false) H1)
def aeD (ta tb:TE):TE:=fun σ H Q=>ta σ H (bF fun c H1=>if c=true then Q (.bl true) H1 else tb σ H1 Q)
def abb (ta:TE):TE:=fun σ H Q=>ta σ H (bF fun c H1=>Q (.bl (!c)) H1)
theorem Bp (ha:PE X a ta) (hb:PE X (.BoolOp .And (b :: rest) pos) tb):PE X (.BoolOp .And (a :: b :: rest) pos) (aa9 ta tb):=by
 intro pins s σ H Q I h
 refine BoolOp_and (eE (ha pins s σ H _ I h) fun v s1 ⟨x,H1,I1,r1,q1⟩=>?_)
 obtain ⟨c,rfl,q1⟩:=VP q1
 cases r1
 refine wpAny_truthy_bool ?_
 cases c with
 | true=>exact hb pins s1 σ H1 Q I1 q1
 | false=>exact ⟨.bl false,H1,I1,rfl,q1⟩
theorem aeE (ha:PE X a ta) (hb:PE X (.BoolOp .Or (b :: rest) pos) tb):PE X (.BoolOp .Or (a :: b :: rest) pos) (aeD ta tb):=by
 intro pins s σ H Q I h
 refine BoolOp_or (eE (ha pins s σ H _ I h) fun v s1 ⟨x,H1,I1,r1,q1⟩=>?_)
 obtain ⟨c,rfl,q1⟩:=VP q1
 cases r1
 refine wpAny_truthy_bool ?_
 cases c with
 | false=>exact hb pins s1 σ H1 Q I1 q1
 | true=>exact ⟨.bl true,H1,I1,rfl,q1⟩
theorem abd (ha:PE X a ta):PE X (.UnaryOp .Not a pos) (abb ta):=by
 intro pins s σ H Q I h
 refine UnaryOp_ (eE (ha pins s σ H _ I h) fun v s1 ⟨x,H1,I1,r1,q1⟩=>?_)
 obtain ⟨c,rfl,q1⟩:=VP q1
 cases r1
 exact not_of (wpAny_truthy_bool ⟨.bl (!c),H1,I1,rfl,q1⟩)
end
end L2
namespace L2
open PySem PySem.Spec PyProof.Rows
def Nx (n i:Nat) (Pv:Nat->Hp->Prop) (H:Hp):Prop:=∃ m',m'<n-i/\(m'=n-(i+1)/\i+1<=n/\Pv (i+1) H)
theorem nx {n i:Nat} {Pv:Nat->Hp->Prop} {H:Hp} (hi:i<n) (h:Pv (i+1) H):Nx n i Pv H:=⟨n-(i+1),by omega,rfl,hi,h⟩
section
variable {g:BI->TG} {tt:BI->TT} {te:BI->TE} {σ0:St} {D:Addr} {End:Hp->Prop} {H1:Hp}
theorem qK {J:It} (n:Nat) (Pv:Nat->Hp->Prop) (h0:Pv 0 (upd H1 D (.lst []))) (stop:∀ H,Pv n H->J.stop n H/\End H)
   (turn:∀ i H,i<n->Pv i H->J.go i H/\∀ x H',J.MP i H x H'->∀ b,g b x σ0 H' fun σ2 H2=>tt b σ2 H2 fun c H3=>if c=true then nZ D (te b) σ2 H3 (Nx n i Pv) else Nx n i Pv H3) :
   ∃ W:Nat->Nat->Hp->Prop,(∃ m,W 0 m (upd H1 D (.lst [])))/\∀ b,nY J (g b) (tt b) (nZ D (te b)) σ0 End W:=by
 refine ⟨fun i m H=>m=n-i/\i<=n/\Pv i H,⟨n,rfl,Nat.zero_le _,h0⟩,fun b i m H ⟨hm,hi,p⟩=>?_⟩
 subst hm
 by_cases hlt:i<n
 . exact .inr ⟨(turn i H hlt p).1,fun x H' y=>(turn i H hlt p).2 x H' y b⟩
 . have e:i=n:=by omega
   subst e
   exact .inl (stop H p)
theorem Nu {z:Str} (Pv:Nat->Hp->Prop) (h0:Pv 0 (upd H1 D (.lst []))) (stop:∀ H,Pv z.cps.size H->End H)
   (turn:∀ i c H,z.cps[i]?=some c->i<z.cps.size->Pv i H->∀ b,g b (.str ⟨#[c]⟩) σ0 H fun σ2 H2=>tt b σ2 H2 fun c H3=>if c=true then nZ D (te b) σ2 H3 (Nx z.cps.size i Pv) else Nx z.cps.size i Pv H3) :
   ∃ W:Nat->Nat->Hp->Prop,(∃ m,W 0 m (upd H1 D (.lst [])))/\∀ b,nY (Its z) (g b) (tt b) (nZ D (te b)) σ0 End W :=
 qK z.cps.size Pv h0 (fun H p=>⟨Nat.le_refl _,stop H p⟩) fun i H hi p=>⟨hi,fun x H' ⟨e,c,hc,hx⟩ b=>by subst e hx; exact turn i c _ hc hi p b⟩
theorem pB {K:PySem.W.Frag} {a:Addr} {xs:List V} (Pv:Nat->Hp->Prop) (h0:Pv 0 (upd H1 D (.lst []))) (hl:∀ i H,i<=xs.length->Pv i H->dg K H a xs) (stop:∀ H,Pv xs.length H->End H)
   (turn:∀ i x H,xs[i]?=some x->i<xs.length->Pv i H->∀ b,g b x σ0 H fun σ2 H2=>tt b σ2 H2 fun c H3=>if c=true then nZ D (te b) σ2 H3 (Nx xs.length i Pv) else Nx xs.length i Pv H3) :
   ∃ W:Nat->Nat->Hp->Prop,(∃ m,W 0 m (upd H1 D (.lst [])))/\∀ b,nY (M4 K a) (g b) (tt b) (nZ D (te b)) σ0 End W :=
 qK xs.length Pv h0 (fun H p=>⟨⟨xs,hl _ H (Nat.le_refl _) p,Nat.le_refl _⟩,stop H p⟩) fun i H hi p =>
   ⟨⟨xs,xs[i],hl i H (Nat.le_of_lt hi) p,by simp [hi]⟩,fun x H' ⟨e,y⟩ b=>by subst e; exact turn i x _ (y xs (hl i _ (Nat.le_of_lt hi) p)) hi p b⟩
theorem Bq {K:PySem.W.Frag} {a:Addr} {xs:List V} (Pv:Nat->Hp->Prop) (h0:Pv 0 (upd H1 D (.lst []))) (hl:∀ i H,i<=xs.length->Pv i H->bM K H a xs) (stop:∀ H,Pv xs.length H->End H)
   (turn:∀ i x H,xs[i]?=some x->i<xs.length->Pv i H->∀ b,g b x σ0 H fun σ2 H2=>tt b σ2 H2 fun c H3=>if c=true then nZ D (te b) σ2 H3 (Nx xs.length i Pv) else Nx xs.length i Pv H3) :
   ∃ W:Nat->Nat->Hp->Prop,(∃ m,W 0 m (upd H1 D (.lst [])))/\∀ b,nY (RP K a) (g b) (tt b) (nZ D (te b)) σ0 End W :=
 qK xs.length Pv h0 (fun H p=>⟨⟨xs,hl _ H (Nat.le_refl _) p,Nat.le_refl _⟩,stop H p⟩) fun i H hi p =>
   ⟨⟨xs,xs[i],hl i H (Nat.le_of_lt hi) p,by simp [hi]⟩,fun x H' ⟨e,y⟩ b=>by subst e; exact turn i x _ (y xs (hl i _ (Nat.le_of_lt hi) p)) hi p b⟩
theorem qj {lo:Int} {n:Nat} (Pv:Nat->Hp->Prop) (h0:Pv 0 (upd H1 D (.lst []))) (stop:∀ H,Pv n H->End H)
   (turn:∀ i H,i<n->Pv i H->∀ b,g b (.int (lo+i)) σ0 H fun σ2 H2=>tt b σ2 H2 fun c H3=>if c=true then nZ D (te b) σ2 H3 (Nx n i Pv) else Nx n i Pv H3) :
   ∃ W:Nat->Nat->Hp->Prop,(∃ m,W 0 m (upd H1 D (.lst [])))/\∀ b,nY (W7 lo n) (g b) (tt b) (nZ D (te b)) σ0 End W :=
 qK n Pv h0 (fun H p=>⟨Nat.le_refl _,stop H p⟩) fun i H hi p=>⟨hi,fun x H' ⟨e,hx⟩ b=>by subst e hx; exact turn i _ hi p b⟩
end
structure fB (H1 H:Hp) (D:Addr) (ys:List V):Prop where
 at':H D=some (.lst ys)
 same:Same H1 H
theorem fB.start {H1:Hp} {D:Addr} (h:H1 D=none):fB H1 (upd H1 D (.lst [])) D []:=⟨aq,fun b o e=>by rw [aL (aN e h)]; exact e⟩
theorem fB.put {H1 H:Hp} {D:Addr} {ys:List V} (h:H1 D=none) (G:fB H1 H D ys) (y:V):fB H1 (upd H D (.lst (ys++[y]))) D (ys++[y]):=⟨aq,fun b o e=>by rw [aL (aN e h)]; exact G.same b o e⟩
theorem Same.upd {H H1:Hp} {p:Addr} {o:HO} (s:Same H H1) (h:H1 p=none):Same H (upd H1 p o):=fun b u e=>by rw [aL (aN (s b u e) h)]; exact s b u e
theorem Same.tup {K:PySem.W.Frag} {H H':Hp} {a:Addr} {xs:List V} (e:Same H H') (h:bM K H a xs):bM K H' a xs:=by
 rcases h with (h | ⟨o,h⟩) | h
 . exact .inl (.inl (e _ _ h))
 . exact .inl (.inr ⟨o,e _ _ h⟩)
 . exact .inr h
def yO (T n:String):Bool:=T == n || (T == "bool" && n == "int")
theorem yP {K:PySem.W.Frag} {H:Hp} {x:V} {T:String} (h:jJ K H x (.type T)):PySem.W.kitOne K (.type T) (.type "int")=some (yO T "int")/\PySem.W.kitOne K (.type T) (.type "bool")=some (yO T "bool")/\PySem.W.kitOne K (.type T) (.type "str")=some (yO T "str")/\PySem.W.kitOne K (.type T) (.type "tuple")=some (yO T "tuple"):=by
 cases h <;> exact ⟨rfl,rfl,rfl,rfl⟩
end L2
namespace L2
open PySem PySem.Spec PyProof.Rows
section
variable {X:Cx} {a b:Expr} {tA Hq:TT} {rest:List Expr} {pos:Pos}
theorem Nv (ha:PT X a tA) (hb:PW X (.BoolOp .Or (b :: rest) pos) Hq):PT X (.BoolOp .Or (a :: b :: rest) pos) (tOr tA Hq):=(pw_or ha hb).pt
theorem tu (ha:PT X a tA) (hb:PW X (.BoolOp .And (b :: rest) pos) Hq):PT X (.BoolOp .And (a :: b :: rest) pos) (Jz tA Hq):=(pw_and ha hb).pt
end
theorem lt1 {a b:Nat}:([a]<[b])↔a<b:=by simp [List.cons_lt_cons_iff]
end L2
namespace L2
open PySem PySem.Spec PyProof.Rows
theorem Ny {α β:Type} {f:α->β} {l:List α} {i:Nat} {c:α} (h:l[i]?=some c):(l.take (i+1)).map f=(l.take i).map f++[f c]:=by
 rw [List.take_add_one,h,List.map_append]; rfl
theorem take_all {α β:Type} {f:α->β} {l:List α} {n:Nat} (h:l.length<=n):(l.take n).map f=l.map f:=by rw [List.take_of_length_le h]
theorem Br {α β:Type} {f:α->β} {l:List α} {i m:Nat} (h:i<m) (hm:m<=sizeLine):((l.take i).map f).length<sizeLine:=by
 rw [List.length_map,List.length_take]; omega
theorem Sw {z:Str} {i c:Nat} (h:z.cps[i]?=some c):z.cps.toList[i]?=some c:=by simpa using h
end L2
namespace L2
open PySem PySem.Spec PyProof.Rows
def aP (p:Addr) (H H':Hp):Prop:=∀ b o,b≠p->H b=some o->H' b=some o
theorem aP.of {p:Addr} {H H':Hp} (s:Same H H'):aP p H H':=fun b o _ e=>s b o e
theorem aP.trans {p:Addr} {H H1 H2:Hp} (a:aP p H H1) (b:aP p H1 H2):aP p H H2:=fun c o n e=>b c o n (a c o n e)
theorem aP.upd {p:Addr} {H H1:Hp} {o:HO} (a:aP p H H1):aP p H (upd H1 p o):=fun c u n e=>by rw [aL n]; exact a c u n e
theorem aP.new {p q:Addr} {H H1:Hp} {o:HO} (a:aP p H H1) (h:H1 q=none):aP p H (L2.upd H1 q o):=fun c u n e=>by rw [aL (aN (a c u n e) h)]; exact a c u n e
structure IxA (K:PySem.W.Frag) (x y:V) (H:Hp) (Q:VK):Prop where
 h:aaV K x y H Q
theorem Eo {X:Cx}:VH X (IxA X.K):=fun a b pins s σ H x y v u Q I rx ry h hs=>R5 a b pins s σ H x y v u Q I rx ry h.h hs
theorem qM {K:PySem.W.Frag} {H:Hp} {p:Addr} {xs:List V} {i:Int} {v:V} {Q:VK} (h:H p=some (.lst xs)) (e:yH xs i=some v) (q:Q v H):IxA K (.ref p) (.int i) H Q:=⟨p,xs,i,v,rfl,rfl,dg.of h,e,q⟩
theorem abe {K:PySem.W.Frag} {H:Hp} {p:Addr} {xs:List V} {i:Int} {v:V} {Q:VK} (h:dg K H p xs) (e:yH xs i=some v) (q:Q v H):IxA K (.ref p) (.int i) H Q:=⟨p,xs,i,v,rfl,rfl,h,e,q⟩
structure IxT (K:PySem.W.Frag) (x y:V) (H:Hp) (Q:VK):Prop where
 h:aaW K x y H Q
theorem jC {X:Cx}:VH X (IxT X.K):=fun a b pins s σ H x y v u Q I rx ry h hs=>Xm a b pins s σ H x y v u Q I rx ry h.h hs
theorem gj {K:PySem.W.Frag} {H:Hp} {p:Addr} {xs:List V} {i:Int} {v:V} {Q:VK} (h:bM K H p xs) (e:yH xs i=some v) (q:Q v H):IxT K (.ref p) (.int i) H Q:=⟨p,xs,i,v,rfl,rfl,h,e,q⟩
structure IxS (x y:V) (H:Hp) (Q:VK):Prop where
 h:aaX x y H Q
theorem XR {X:Cx}:VH X IxS:=fun a b pins s σ H x y v u Q I rx ry h hs=>Xn a b pins s σ H x y v u Q I rx ry h.h hs
theorem Nz {H:Hp} {z:Str} {i:Int} {c:Nat} {Q:VK} (hz:z.length<=sizeLine) (e:yH z.cps.toList i=some c) (q:Q (.str ⟨#[c]⟩) H):IxS (.str z) (.int i) H Q:=⟨z,i,c,rfl,rfl,hz,e,q⟩
structure abf (o i v:V) (H:Hp) (Q:Hp->Prop):Prop where
 h:VJ o i v H Q
theorem aeI {X:Cx}:W0 X abf:=fun pins s σ H o i v ov iv u Q I ro ri rv h=>set_list pins s σ H o i v ov iv u Q I ro ri rv h.h
theorem setAt {H:Hp} {p:Addr} {xs:List V} {i:Int} {j:Nat} {v:V} {Q:Hp->Prop} (h:H p=some (.lst xs)) (e:R4 xs.length i=some j) (q:Q (upd H p (.lst (xs.set j v)))):abf (.ref p) (.int i) v H Q:=⟨p,xs,i,j,rfl,rfl,h,e,q⟩
end L2
namespace L2
open PySem PySem.Spec PyProof.Rows
def NK (z:Str) (lo hi:Option Int):Str:=⟨((z.cps.toList.drop (HT.fX z.length 0 lo)).take (HT.fX z.length z.length hi-HT.fX z.length 0 lo)).toArray⟩
theorem XS (lo hi:Option Int) (n:Nat):Builtin.Str.strSliceIndices lo hi 1 n=(List.range (HT.fX n n hi-HT.fX n 0 lo)).map (HT.fX n 0 lo+·):=by
 have a:∀ (v:Option Int) (d:Nat),d<=n->(match v with | none=>(d:Int) | some i=>(let i:=if i<0 then i+(n:Int) else i; max 0 (min i (n:Int))))=((HT.fX n d v:Nat):Int):=fun v d hd=>by
   cases v with
   | none=>rfl
   | some i =>
     show max 0 (min (if i<0 then i+(n:Int) else i) (n:Int))=((if i<0 then (i+(n:Int)).toNat else min i.toNat n:Nat):Int)
     by_cases h:i<0
     . rw [if_pos h,if_pos h]; omega
     . rw [if_neg h,if_neg h]; omega
 rw [<- sliceRange_one]
 unfold Builtin.Str.strSliceIndices
 have h1:=a lo 0 (Nat.zero_le _)
 have h2:=a hi n (Nat.le_refl _)
 simp only [show (1:Int) > 0 by decide,if_true] at h1 h2 ⊢
 rw [<- h1,<- h2]
 rfl
theorem uY (z:Str) (lo hi:Option Int):Txt.slice z lo hi=NK z lo hi:=by
 unfold Txt.slice NK
 rw [XS,pick_run]
 split
 . rename_i h
   have e:HT.fX z.length z.length hi-HT.fX z.length 0 lo=z.length:=by simpa using h
   have b:HT.fX z.length z.length hi<=z.length:=by
     unfold HT.fX
     cases hi with
     | none=>exact Nat.le_refl _
     | some v=>simp only; split <;> omega
   by_cases h0:z.length=0
   . have e0:z.cps.toList=[]:=by
       apply List.eq_nil_of_length_eq_zero
       simpa [Str.length] using h0
     cases z with
     | mk cps =>
       have e1:cps=#[]:=by simpa using e0
       subst e1
       simp
   . have e1:HT.fX z.length 0 lo=0:=by omega
     rw [e1,Nat.sub_zero,show HT.fX z.length z.length hi=z.length by omega,List.drop_zero,List.take_of_length_le (by simp [Str.length])]
 . rfl
theorem NP (z:Str) (k:Nat):Txt.slice z none (some (k:Int))=⟨(z.cps.toList.take k).toArray⟩:=by
 rw [uY]
 unfold NK
 rw [HT.jz,HT.iJ,List.drop_zero,Nat.sub_zero]
 congr 2
 rw [List.take_eq_take_iff]
 simp [Str.length]
 try omega
theorem J6 (z:Str) (i k:Nat):Txt.slice z (some (i:Int)) (some (k:Int))=⟨((z.cps.toList.take k).drop i).toArray⟩:=by
 rw [uY]
 unfold NK
 rw [HT.iJ,HT.iJ,List.drop_take]
 have el:z.cps.toList.length=z.length:=by simp [Str.length]
 congr 1
 by_cases h:i<=z.length
 . rw [Nat.min_eq_left h]
   congr 1
   rw [List.take_eq_take_iff,List.length_drop,el]
   omega
 . rw [List.drop_of_length_le (show z.cps.toList.length<=min i z.length by omega),List.drop_of_length_le (show z.cps.toList.length<=i by omega)]
   simp
end L2
namespace L2
open PySem PySem.Spec PyProof.Rows
def yQ (t:TE):TO:=fun σ H Q=>t σ H fun x H1=>match x with
 | .int i=>Q (some i) H1
 | _=>False
theorem J7 {X:Cx} {e:Expr} {te:TE} (h:PE X e te):PO X (some e) (yQ te):=by
 intro pins s σ H Q I hw
 rw [evalPart_some]
 refine eE (h pins s σ H _ I hw) fun u s1 ⟨x,H1,I1,r1,q1⟩=>?_
 cases x with
 | int i=>obtain ⟨t,rfl⟩:=r1; exact ⟨some i,H1,I1,.int i t,q1⟩
 | _=>exact (show False from q1).elim
structure SlS (x:V) (lo hi:Option Int) (H:Hp) (Q:VK):Prop where
 h:∃ z,x=.str z/\z.length<=sizeLine/\Q (.str (Txt.slice z lo hi)) H
theorem SJ {X:Cx}:Xk X SlS:=fun pins s σ H x v vl vu lo hi sl Q I rx hs pl pu h=>XD pins s σ H x v vl vu lo hi sl Q I rx hs pl pu h.h
theorem Ia {z:Str} {lo hi:Option Int} {H:Hp} {Q:VK} (hz:z.length<=sizeLine) (q:Q (.str (Txt.slice z lo hi)) H):SlS (.str z) lo hi H Q:=⟨z,rfl,hz,q⟩
theorem app_list (a b:Str):(a++b).cps.toList=a.cps.toList++b.cps.toList:=by
 show (a.cps++b.cps).toList=_
 simp
theorem len_list (a:Str):a.cps.toList.length=a.length:=by simp [Str.length]
end L2
namespace L2
open PySem PySem.Spec PyProof.Rows
abbrev um:=St->Hp->(St->Hp->Prop)->Prop
def CT (J:It) (g:TG) (tt:TT) (act:um) (End:St->Hp->Prop) (W:Nat->Nat->St->Hp->Prop):Prop :=
 ∀ i m σ H,W i m σ H->(J.stop i H/\End σ H)∨(J.go i H/\∀ x H',J.MP i H x H'->g x σ H' fun σ2 H2=>tt σ2 H2 fun b H3 =>
   if b=true then act σ2 H3 fun σ4 H4=>∃ m',m'<m/\W (i+1) m' σ4 H4 else ∃ m',m'<m/\W (i+1) m' σ2 H3)
def J8 (X:Cx) (tail:Sem Unit) (act:um):Prop :=
 ∀ (pins:List (Addr × Obj)) (s:Shared) (σ:St) (H:Hp) (R:St->Hp->Prop),Inv X pins σ H s->act σ H R ->
   wpAny (model X.prog X.w) X.A tail (fun _ s'=>∃ σ' H',Inv X pins σ' H' s'/\R σ' H') (fun _ _=>False) s
def xH (p:Pos) (tg:Expr) (ifs:List Expr) (env:Env) (it:Value) (tail:Sem Unit) (c:Code):Sem Fin:=do
 standAt p
 match <- pyNext it with
 | none=>pure (.done .next)
 | some v =>
   letOwnedTupleGo tg it v
   assign tg env v
   let mut ok:=true
   for c in ifs do
     if ok then ok <- isTrue c env (eval c env)
   if ok then tail
   again c
theorem VR {X:Cx} {e:Expr} {depth:Nat} {acc:Value} {p:Pos} {tg:Expr} {ifs:List Expr} {tail:Sem Unit} {J:It} {fp:List Addr} {it:Addr} {tn:Nat->Heap->Prop} {g:TG} {tt:TT} {act:um} {End:St->Hp->Prop} {W:Nat->Nat->St->Hp->Prop} {m0:Nat}
   {pins:List (Addr × Obj)} {σ:St} {H:Hp} {s:Shared} (hq:(Code.compLoop e depth (.ref it) acc X.env).quiet=true)
   (hden:∀ (Q:Fin->Shared->Prop) (E:Value->Shared->Prop) (s:Shared),wpAny (model X.prog X.w) X.A (xH p tg ifs X.env (.ref it) tail (.compLoop e depth (.ref it) acc X.env)) Q (notedBy (model X.prog X.w) X.A X.env E) s ->
     wpAny (model X.prog X.w) (X.A.under (.compLoop e depth (.ref it) acc X.env)) ((model X.prog X.w).den (.compLoop e depth (.ref it) acc X.env)) Q E s)
   (Mw:∀ v s,X.xe v s->False) (hc:X.calm=true) (T:Turn X.prog X.w X.K tg J fp it tn) (hf:∀ b∈fp,mD X pins H b) (I:Inv X pins σ H s) (st:tn 0 s.heap) (hg:PG X tg g) (ht:Nm X ifs tt) (ha:J8 X tail act)
   (hW:CT J g tt act End W) (w0:W 0 m0 σ H) :
   codeAny (model X.prog X.w) X.A (.compLoop e depth (.ref it) acc X.env) (fun r s'=>∃ σ' H',r=.ok .next/\Inv X pins σ' H' s'/\End σ' H') s:=by
 have stat:∀ {H':Hp},(∀ b∈fp,H' b=none)->∀ b∈fp,mD X pins H' b:=fun hn b hb=>⟨hn b hb,(hf b hb).2⟩
 refine codeAny_loop hq (fun n s'=>∃ i σ' H',Inv X pins σ' H' s'/\tn i s'.heap/\(∀ b∈fp,H' b=none)/\W i n σ' H') ?_ m0 ⟨0,σ,H,I,st,fun b hb=>(hf b hb).1,w0⟩
 rintro n s3 ⟨i,σ3,H3,I3,st3,W8,w3⟩
 refine hden _ _ _ ?_
 unfold xH
 rcases hW i n σ3 H3 w3 with ⟨stop,qe⟩ | ⟨go,step⟩
 . refine wpAny_bind (wpAny_standAt (wpAny_bind (eE (T.done X rfl rfl rfl hc i pins s3 _ H3 _ I3 (stat W8) st3 stop) fun r s5 ⟨hr,I5⟩=>?_)))
   subst hr
   exact wpAny_pure ⟨σ3,H3,rfl,I5,qe⟩
 . refine wpAny_bind (wpAny_standAt (wpAny_bind (eE (T.item X rfl rfl rfl hc i pins s3 _ H3 _ I3 (stat W8) st3 go) fun r s5 ⟨u,hr,h5⟩=>?_)))
   subst hr
   refine wpAny_bind (eE h5 fun _ s6 ⟨x,H6,I6,r6,y6,RD,fr6⟩=>?_)
   have I6':=I6.pinned (stat fr6) (T.obj _ _ RD)
   refine wpAny_bind (wpAny_mono (hg _ s6 _ H6 x u _ I6' r6 (step x H6 y6)) (fun _ s7 ⟨σ7,H7,I7,q7⟩=>?_) fun v s' f=>(Mw v s' f).elim)
   refine wpAny_bind (wpAny_mono (ht _ s7 σ7 H7 _ I7 q7) (fun ok s8 ⟨H8,I8,q8⟩=>?_) fun v s' f=>(Mw v s' f).elim)
   have again:∀ {σ9:St} {H9:Hp} {s9:Shared} {m':Nat},Inv X (pins++rH fp s6.heap) σ9 H9 s9->m'<n->W (i+1) m' σ9 H9 ->
       ∃ m,m<n/\∃ i σ' H',Inv X pins σ' H' s9/\tn i s9.heap/\(∀ b∈fp,H' b=none)/\W i m σ' H':=fun {σ9 H9 s9 m'} I9 hm w9=>by
     refine ⟨m',hm,i+1,σ9,H9,I9.nM,T.keep _ _ _ RD fun b hb o e=>(I9.pin (b,o) (List.mem_append_right _ (List.mem_append_right _ (jg hb e)))).1,fun b hb=>?_,w9⟩
     obtain ⟨o,e,d⟩:=T.obj _ _ RD b hb
     exact (I9.pin (b,o) (List.mem_append_right _ (List.mem_append_right _ (jg hb e)))).2.1
   cases ok with
   | false =>
     obtain ⟨m',hm,w9⟩:=q8
     exact wpAny_pure ⟨rfl,again I8 hm w9⟩
   | true =>
     refine wpAny_bind (wpAny_mono (ha _ s8 σ7 H8 _ I8 q8) (fun _ s9 ⟨σ9,H9,I9,m',hm,w9⟩=>?_) fun _ _ f=>f.elim)
     exact wpAny_pure ⟨rfl,again I9 hm w9⟩
def V0 (D:Addr) (te:TE):um:=fun σ H R=>te σ H fun y H4=>∃ zs,H4 D=some (.lst zs)/\zs.length<sizeLine/\R σ (upd H4 D (.lst (zs++[y])))
def aIn (wi:TI) (g:TG) (tt:TT) (act:um):um:=fun σ H R=>wi σ H fun J H1=>∃ W:Nat->Nat->St->Hp->Prop,(∃ m,W 0 m σ H1)/\CT J g tt act R W
section
variable {X:Cx} {elt kx vx iter tg:Expr} {te tk tv:TE} {D:Addr} {wi:TI} {g:TG} {tt:TT} {act:um} {ifs:List Expr} {scope:Scope} {pos:Pos}
theorem NQ (Mw:∀ v s,X.xe v s->False) (he:PE X elt te):J8 X (do let _ <- call (.builtin "list.append") [.ref D,<- eval elt X.env]) (V0 D te):=by
 intro pins s σ H R I h
 refine wpAny_bind (wpAny_mono (he _ s σ H _ I h) (fun y s9 ⟨v,H9,I9,r9,zs,hD,hz,w9⟩=>?_) fun v s' f=>(Mw v s' f).elim)
 refine wpAny_bind (wpAny_mono (dD (X:=X) _ s9 σ H9 (.ref D) [v] (.ref D) [y] (fun _ H'=>R σ H') I9 rfl (.cons r9 .nil) ⟨D,zs,v,rfl,rfl,hD,hz,w9⟩) (fun _ Bl ⟨_,DW,I10,_,q⟩=>?_) fun v s' f=>(Mw v s' f).elim)
 exact wpAny_pure ⟨σ,DW,I10,q⟩
theorem J9 {pins:List (Addr × Obj)} {σ:St} {H H':Hp} {s:Shared} {a:Addr} {y v:V} {u r:Value} {A:Around} {E:Value->Shared->Prop} {Q:Unit->Shared->Prop} (I:Inv X pins σ H s) {kvs:List (Key × V)} {k:Key} (e:H a=some (.dK kvs)) (ey:y=kV k)
   (l:kvs.length<sizeLine) (eH:H'=upd H a (.dK (putK kvs k v))) (ry:RelV y u) (rv:RelV v r) (h:∀ s',Inv X pins σ H' s'->Q () s'):wpAny (model X.prog X.w) A (dictSet a u r) Q E s:=by
 subst ey eH
 obtain ⟨z,hd,vs,rel,dd⟩:=xg I.hok e
 have hz:vs.length<=sizeLine:=by rw [<- rel.length]; exact z
 have hl:(putK kvs k v).length<=sizeLine:=by have:=fY kvs k v; omega
 refine wpAny_dictSet_pairs (hsz:=hz) (uQ ry) dd fun h' Xu hs=>h _ ?_
 have he:∃ q,h'.get? a=some q:=let ⟨q,_,_,hq,_⟩:=Xu; ⟨q,hq⟩
 exact ux I (by rw [e]; exact True.intro) hs he (uT hl hd (rel.put k rv) Xu)
def NT (D:Addr) (tk tv:TE):um:=fun σ H R=>tk σ H fun k H1=>tv σ H1 fun v H2=>∃ kvs kk,H2 D=some (.dK kvs)/\k=kV kk/\kvs.length<sizeLine/\R σ (upd H2 D (.dK (putK kvs kk v)))
theorem Ka (Mw:∀ v s,X.xe v s->False) (hk:PE X kx tk) (hv:PE X vx tv):J8 X (do
   let kv <- eval kx X.env
   let vv <- holding [kv] (eval vx X.env)
   standAt { kx.pos with endLine:=vx.pos.endLine,endCol:=vx.pos.endCol }
   holding [kv,vv] (dictSet D kv vv)) (NT D tk tv):=by
 intro pins s σ H R I h
 refine wpAny_bind (wpAny_mono (hk _ s σ H _ I h) (fun y s1 ⟨k,H1,I1,r1,q1⟩=>?_) fun v s' f=>(Mw v s' f).elim)
 refine wpAny_bind (wpAny_holding (wpAny_mono (hv _ s1 σ H1 _ I1 q1) (fun z s2 ⟨v,H2,I2,r2,kvs,kk,hD,ek,hl,q⟩=>?_) fun v s' f=>(Mw v s' f).elim))
 refine wpAny_bind (wpAny_standAt (wpAny_holding ?_))
 exact J9 I2 hD ek hl rfl r1 r2 fun s' I'=>⟨σ,_,I',q⟩
end
end L2
namespace L2
open PySem PySem.Spec PyProof.Rows
theorem SM {X:Cx} {e:Expr} {acc:Value} {p:Pos} {iter tg:Expr} {ifs:List Expr} {tail:Sem Unit} {wi:TI} {g:TG} {tt:TT} {act:um}
   (hq:∀ it,(Code.compLoop e 1 (.ref it) acc X.env).quiet=true)
   (hden:∀ (it:Addr) (Q:Fin->Shared->Prop) (E:Value->Shared->Prop) (s:Shared),wpAny (model X.prog X.w) X.A (xH p tg ifs X.env (.ref it) tail (.compLoop e 1 (.ref it) acc X.env)) Q (notedBy (model X.prog X.w) X.A X.env E) s ->
     wpAny (model X.prog X.w) (X.A.under (.compLoop e 1 (.ref it) acc X.env)) ((model X.prog X.w).den (.compLoop e 1 (.ref it) acc X.env)) Q E s)
   (hst:∀ (it:Addr) (R:Result->Shared->Prop) (s:Shared),codeAny (model X.prog X.w) X.A (.compLoop e 1 (.ref it) acc X.env) R s ->
     (∀ Q E,Q (.ref it) s->wpAny (model X.prog X.w) X.A (pyIter (.ref it)) Q E s)->codeAny (model X.prog X.w) X.A (.compStart e 1 (.ref it) acc X.env) R s)
   (Mw:∀ v s,X.xe v s->False) (hc:X.calm=true) (hi:PI X tg iter wi) (hg:PG X tg g) (ht:Nm X ifs tt) (ha:J8 X tail act) (hs:∀ x,foldedSetIterable iter X.env x=pure x:=by intro _; rfl) :
   J8 X (do
     let x <- eval iter X.env
     standAt iter.pos
     let x <- foldedSetIterable iter X.env x
     let _ <- runOwn (.compStart e 1 (<- holding [x] (pyIter x)) acc X.env) X.env) (aIn wi g tt act):=by
 intro pins s σ H R I h
 refine wpAny_bind (wpAny_mono (hi pins s σ H _ I h) (fun v s1 h1=>?_) fun v s' f=>(Mw v s' f).elim)
 refine wpAny_bind (wpAny_standAt (wpAny_bind ?_))
 rw [hs]
 refine wpAny_pure (wpAny_bind (wpAny_holding (wpAny_mono h1 (fun itv s2 h2=>?_) fun v s' f=>(Mw v s' f).elim)))
 obtain ⟨it,fp,tn,J,H2,rfl,I2,T,st2,f2,W,⟨m0,w0⟩,hW⟩:=h2
 have loop:=VR (p:=p) (hq it) (hden it) Mw hc T f2 I2 st2 hg ht ha hW w0
 refine wpAny_bind (wpAny_runOwn (codeAny_mono (hst it _ _ loop fun Q E q=>T.self _ 0 _ _ _ st2 q) fun r s' ⟨σ',H',hr,I',q⟩=>?_))
 subst hr
 exact wpAny_pure ⟨σ',H',I',q⟩
end L2
namespace L2
open PySem PySem.Spec PyProof.Rows
def Ep (own:List Str) (ix:List Nat) (o0:HO) (wi:TI) (g:BI->TG) (tt:BI->TT) (act:BI->Addr->um):TE:=fun σ H Q=>wi σ H fun J H1=>∀ D,H1 D=none ->
 ∃ W:Nat->Nat->St->Hp->Prop,(∃ m,W 0 m (HN own ix σ) (upd H1 D o0))/\∀ b,CT J (g b) (tt b) (act b D) (fun _ H'=>Q (.ref D) H') W
section
variable {X:Cx} {e tg iter:Expr} {ifs:List Expr} {gs:List Comprehension} {scope g8:Scope} {pos:Pos} {own cap:List Str} {ix:List Nat} {wi:TI} {g:BI->TG} {tt:BI->TT} {act:BI->Addr->um} {tail:Addr->Env->Sem Unit} {newAcc:Sem Value} {ob:Obj} {o0:HO} {p:Pos}
structure Ib (X:Cx) (e:Expr) (depth:Nat) (p:Pos) (tg:Expr) (ifs:List Expr) (tail:Addr->Env->Sem Unit):Prop where
 hq:∀ it D env,(Code.compLoop e depth (.ref it) (.ref D) env).quiet=true
 hden:∀ (it D:Addr) (env:Env) (Q:Fin->Shared->Prop) (E:Value->Shared->Prop) (s:Shared),wpAny (model X.prog X.w) X.A (xH p tg ifs env (.ref it) (tail D env) (.compLoop e depth (.ref it) (.ref D) env)) Q (notedBy (model X.prog X.w) X.A env E) s ->
     wpAny (model X.prog X.w) (X.A.under (.compLoop e depth (.ref it) (.ref D) env)) ((model X.prog X.w).den (.compLoop e depth (.ref it) (.ref D) env)) Q E s
 hst:∀ (it D:Addr) (env:Env) (R:Result->Shared->Prop) (s:Shared),codeAny (model X.prog X.w) X.A (.compLoop e depth (.ref it) (.ref D) env) R s ->
     (∀ Q E,Q (.ref it) s->wpAny (model X.prog X.w) X.A (pyIter (.ref it)) Q E s)->codeAny (model X.prog X.w) X.A (.compStart e depth (.ref it) (.ref D) env) R s
theorem tD {pins:List (Addr × Obj)} {σ:St} {H:Hp} {s:Shared} {Q:VK} {use:Option (Value->Sem Unit)} {Q':Value->Shared->Prop} (hcl:clausesOf e=⟨tg,iter,ifs,0⟩ :: gs) (C0:Ib X e 0 p tg ifs tail)
   (hnew:∀ (pins:List (Addr × Obj)) (σ:St) (H:Hp) (s:Shared) (Q:Value->Shared->Prop) (E:Value->Shared->Prop),Inv X pins σ H s->(Inv X pins σ (upd H s.heap.objs.size o0) { s with heap:=s.heap.push ob }->Q (.ref s.heap.objs.size) { s with heap:=s.heap.push ob })->wpAny (model X.prog X.w) X.A newAcc Q E s)
   (hc:X.calm=true) (hX:X.env.scope=g8) (S:uh g8 scope X.N own cap ix) (hi:PI X tg iter wi)
   (hg:∀ b,PG (blk X scope (own++cap) b) tg (g b)) (ht:∀ b,Nm (blk X scope (own++cap) b) ifs (tt b)) (ha:∀ b D,J8 (blk X scope (own++cap) b) (tail D (blk X scope (own++cap) b).env) (act b D))
   (hs:∀ x,foldedSetIterable iter X.env x=pure x) (I:Inv X pins σ H s) (h:Ep own ix o0 wi g tt act σ H Q)
   (out:∀ (D C:Addr) (H':Hp) (s':Shared),Q (.ref D) H'->(∃ m,s'.heap.Ns C m)->mD X pins H' C->(∀ h',Heap.SameBut C s'.heap h'->Inv X pins σ H' { s' with heap:=h' }) ->
     compPost (model X.prog X.w) X.A X.xe use Q' (.ref D) C (.ok .next) s') :
   wpAny (model X.prog X.w) X.A (comprehension e scope X.env pos newAcc false (eval iter X.env) use) Q' X.xe s:=by
 have hclos:=pQ (scope:=scope) (env:=X.env) fun y hy hk=>by
   have hf:=S.free y hy hk
   rw [<- hX] at hf
   exact I.ok.has y.1 hf
 refine wpAny_comprehension_free (use:=use) hcl hs hclos S.kind (fun y hy hk=>by rw [S.nm y hy,hk]) (eE (hi pins s σ H _ I h) fun v s1 h1=>eE h1 fun itv s2 h2=>?_)
 obtain ⟨it,fp,tn,J,H2,e1,I2,T,st2,f2,hR⟩:=h2
 subst e1
 refine hnew _ _ _ _ _ _ I2 fun I3=>?_
 obtain ⟨W,⟨m0,w0⟩,hW⟩:=hR s2.heap.objs.size I2.fresh
 have Z7:∀ b∈fp,b<s2.heap.objs.size:=fun b hb=>let ⟨_,e,_⟩:=T.obj _ _ st2 b hb; Heap.lt_size e
 have f3:∀ b∈fp,mD X pins (upd H2 s2.heap.objs.size o0) b:=fun b hb=>⟨by rw [aL (Nat.ne_of_lt (Z7 b hb))]; exact (f2 b hb).1,(f2 b hb).2⟩
 have st3:tn 0 (s2.heap.push ob):=T.keep _ _ _ st2 fun b hb o e=>Heap.get?_push_of_some _ e
 generalize hs3:({ s2 with heap:=s2.heap.push ob }:Shared)=s3 at I3
 have Nq:tn 0 s3.heap:=by rw [<- hs3]; exact st3
 have ob3:∀ b∈fp,∃ o,s3.heap.get? b=some o:=fun b hb=>let ⟨o,e,_⟩:=T.obj _ _ Nq b hb; ⟨o,e⟩
 have I4:=HX S hX I3 f3 ob3
 have Xz:tn 0 (Xy s3 scope):=T.keep _ _ _ Nq fun b _ o e=>rN s3 scope b o e
 refine uW ?_
 have f4:∀ b∈fp,mD (blk X scope (own++cap) (uy X pins s3 (upd H2 s2.heap.objs.size o0) scope fp)) [] (upd H2 s2.heap.objs.size o0) b:=fun b hb=>by
   refine ⟨(f3 b hb).1,(I4.ok.Z2 b hb).1,I4.ok.Jx b hb,.inl hb,(I4.ok.Z2 b hb).2,fun p hp=>?_⟩
   have hp':p∈X.pn++pins:=by
     rcases List.mem_append.mp hp with z | z
     . exact z
     . exact nomatch z
   exact (f3 b hb).2.2.2.2.2 p hp'
 have loop:=VR (X:=blk X scope (own++cap) (uy X pins s3 (upd H2 s2.heap.objs.size o0) scope fp)) (e:=e) (depth:=0) (acc:=.ref s2.heap.objs.size) (C0.hq _ _ _) (C0.hden _ _ _) (fun _ _ f=>f) hc T f4 I4 Xz (hg _) (ht _) (ha _ _) (hW _) w0
 have fin:codeAny (model X.prog X.w) X.A (.compLoop e 0 (.ref it) (.ref s2.heap.objs.size) (Bj scope (RB X s3 scope) s3.heap.objs.size X.env))
     (compPost (model X.prog X.w) X.A X.xe use Q' (.ref s2.heap.objs.size) s3.heap.objs.size) { s3 with heap:=Xy s3 scope }:=codeAny_mono loop fun r s' ⟨σ',H',hr,J',q⟩=>by
   subst hr
   exact out _ _ H' s' q (let ⟨m,hn,_⟩:=J'.loc; ⟨m,hn⟩) (I3.Ba (Nat.le_refl _) J'.free) fun h' hh=>HY I3 f3 J' hh
 exact C0.hst _ _ _ _ _ fin fun Q E q=>T.self _ 0 _ _ _ Xz q
end
section
variable {X:Cx} {elt kx vx tg iter Kc iter1:Expr} {ifs uo:List Expr} {scope:Scope} {pos:Pos}
def abg (elt:Expr) (D:Addr) (env:Env):Sem Unit:=do let _ <- call (.builtin "list.append") [.ref D,<- eval elt env]
def tailD (kx vx:Expr) (D:Addr) (env:Env):Sem Unit:=do
   let kv <- eval kx env
   let vv <- holding [kv] (eval vx env)
   standAt { kx.pos with endLine:=vx.pos.endLine,endCol:=vx.pos.endCol }
   holding [kv,vv] (dictSet D kv vv)
def NZ (e iter:Expr) (D:Addr) (env:Env):Sem Unit:=do
     let x <- eval iter env
     standAt iter.pos
     let x <- foldedSetIterable iter env x
     let _ <- runOwn (.compStart e 1 (<- holding [x] (pyIter x)) (.ref D) env) env
theorem X3 (it:Value) (D:Addr) (env:Env):compTurn (.ListComp elt [⟨tg,iter,ifs,0⟩,⟨Kc,iter1,uo,0⟩] scope pos) 0 it (.ref D) env=xH iter.pos tg ifs env it (NZ (.ListComp elt [⟨tg,iter,ifs,0⟩,⟨Kc,iter1,uo,0⟩] scope pos) iter1 D env) (.compLoop (.ListComp elt [⟨tg,iter,ifs,0⟩,⟨Kc,iter1,uo,0⟩] scope pos) 0 it (.ref D) env):=by
 unfold compTurn xH NZ
 simp only [List.getElem?_cons_zero,List.getElem?_cons_succ,bne_self_eq_false,Bool.false_eq_true,if_false,bind_assoc,pure_bind]
 rfl
theorem Er {e:Expr} {d:Nat} {gl:Comprehension} {it acc:Value} {env:Env} {R:Result->Shared->Prop} {s:Shared} (hf:(Code.compStart e d it acc env).isFrame=false) (hg:(clausesOf e)[d]?=some gl) (ha:gl.is_async=0) (hu:∀ A:Around,A.under (.compStart e d it acc env)=A) (hq:(Code.compLoop e d it acc env).quiet=true)
   (hd:(model X.prog X.w).den (.compStart e d it acc env)=(compStart e d it acc env).onRaise (fun x=>do noteFrame x env; standAt theWindowsPlace))
   (h0:codeAny (model X.prog X.w) X.A (.compLoop e d it acc env) R s) (h:∀ Q E,Q it s->wpAny (model X.prog X.w) X.A (pyIter it) Q E s):codeAny (model X.prog X.w) X.A (.compStart e d it acc env) R s:=by
 refine codeAny_of_tree ?_
 rw [hu,hd]
 refine wpAny_notedAt ?_
 unfold compStart
 rw [hg]
 simp only [Option.elim_some,ha]
 refine wpAny_bind (wpAny_askSetting (wpAny_ite ?_))
 split
 . exact wpAny_pure (And.intro hq h0)
 . refine wpAny_bind (wpAny_rule (wpAny_bind (wpAny_standAt (wpAny_bind (h _ _ ?_)))))
   exact wpAny_pure (And.intro hq h0)
theorem X4:Ib X (.ListComp elt [⟨tg,iter,ifs,0⟩,⟨Kc,iter1,uo,0⟩] scope pos) 0 iter.pos tg ifs (NZ (.ListComp elt [⟨tg,iter,ifs,0⟩,⟨Kc,iter1,uo,0⟩] scope pos) iter1) where
 hq:=fun _ _ _=>rfl
 hden:=fun it D env Q E s h=>by
   show wpAny _ X.A ((compTurn (.ListComp elt [⟨tg,iter,ifs,0⟩,⟨Kc,iter1,uo,0⟩] scope pos) 0 (.ref it) (.ref D) env).onRaise (fun x=>do noteFrame x env; theTreesLotGoes x)) _ _ s
   exact wpAny_noted (by rw [X3]; exact h)
 hst:=fun it D env R s h0 h=>Er rfl rfl rfl (fun _=>rfl) rfl rfl h0 h
theorem yR:Ib X (.ListComp elt [⟨tg,iter,ifs,0⟩,⟨Kc,iter1,uo,0⟩] scope pos) 1 iter1.pos Kc uo (abg elt) where
 hq:=fun _ _ _=>rfl
 hden:=fun it D env Q E s h=>by
   show wpAny _ X.A ((compTurn (.ListComp elt [⟨tg,iter,ifs,0⟩,⟨Kc,iter1,uo,0⟩] scope pos) 1 (.ref it) (.ref D) env).onRaise (fun x=>do noteFrame x env; theTreesLotGoes x)) _ _ s
   exact wpAny_noted h
 hst:=fun it D env R s h0 h=>Er rfl rfl rfl (fun _=>rfl) rfl rfl h0 h
theorem N5 {pins:List (Addr × Obj)} {σ:St} {H:Hp} {s:Shared} {Q:Value->Shared->Prop} {E:Value->Shared->Prop} (I:Inv X pins σ H s)
   (h:Inv X pins σ (upd H s.heap.objs.size (.lst [])) { s with heap:=s.heap.push { cls:=.type "list",data:=.seq ([]:List Value).toArray } }->Q (.ref s.heap.objs.size) { s with heap:=s.heap.push { cls:=.type "list",data:=.seq ([]:List Value).toArray } }):wpAny (model X.prog X.w) X.A (newList []) Q E s :=
 wpAny_newObj_type (h (I.Xr (t':=s.toks) (its:=[]) .nil (Nat.zero_le _)))
theorem N6 {pins:List (Addr × Obj)} {σ:St} {H:Hp} {s:Shared} {Q:Value->Shared->Prop} {E:Value->Shared->Prop} (I:Inv X pins σ H s)
   (h:Inv X pins σ (upd H s.heap.objs.size (.dK [])) { s with heap:=s.heap.push { cls:=.type "dict",data:=.dict #[] } }->Q (.ref s.heap.objs.size) { s with heap:=s.heap.push { cls:=.type "dict",data:=.dict #[] } }):wpAny (model X.prog X.w) X.A newDict Q E s :=
 wpAny_newObj_type (h (I.laid (a:=s.heap.objs.size) (o:=.dK []) (t':=s.toks) (fun _ _ q=>Heap.get?_push_of_some _ q) (Nat.le_refl _) (Bg s.heap I.big)))
end
section
variable {X:Cx} {elt kx vx tg iter Kc iter1:Expr} {ifs uo:List Expr} {scope g8:Scope} {pos:Pos} {own cap:List Str} {ix:List Nat} {wi:TI} {g g1:BI->TG} {tt tt1:BI->TT} {te tk tv:BI->TE} {wi1:BI->TI}
abbrev X5 (own:List Str) (ix:List Nat) (wi:TI) (g:BI->TG) (tt:BI->TT) (wi1:BI->TI) (g1:BI->TG) (tt1:BI->TT) (te:BI->TE):TE:=Ep own ix (.lst []) wi g tt fun b D=>aIn (wi1 b) (g1 b) (tt1 b) (V0 D (te b))
theorem Bs (hc:X.calm=true) (hX:X.env.scope=g8) (S:uh g8 scope X.N own cap ix) (hi:PI X tg iter wi) (hg:∀ b,PG (blk X scope (own++cap) b) tg (g b)) (ht:∀ b,Nm (blk X scope (own++cap) b) ifs (tt b))
   (hi1:∀ b,PI (blk X scope (own++cap) b) Kc iter1 (wi1 b)) (hg1:∀ b,PG (blk X scope (own++cap) b) Kc (g1 b)) (ht1:∀ b,Nm (blk X scope (own++cap) b) uo (tt1 b))
   (he:∀ b,PE (blk X scope (own++cap) b) elt (te b)) (hs:∀ x,foldedSetIterable iter X.env x=pure x:=by intro _; rfl) (hs1:∀ env x,foldedSetIterable iter1 env x=pure x:=by intro _ _; rfl) :
   PE X (.ListComp elt [⟨tg,iter,ifs,0⟩,⟨Kc,iter1,uo,0⟩] scope pos) (X5 own ix wi g tt wi1 g1 tt1 te):=by
 intro pins s σ H Q I h
 rw [eval_ListComp]
 refine tD (use:=none) rfl X4 (fun _ _ _ _ _ _=>N5) hc hX S hi hg ht (fun b D=>SM (acc:=.ref D) (fun it=>(yR (X:=blk X scope (own++cap) b)).hq it D _) (fun it=>(yR (X:=blk X scope (own++cap) b)).hden it D _) (fun it=>(yR (X:=blk X scope (own++cap) b)).hst it D _) (fun _ _ f=>f) hc (hi1 b) (hg1 b) (ht1 b) (NQ (fun _ _ f=>f) (he b)) (hs1 _)) hs I h fun D C H' s' q hn _ hI=>?_
 obtain ⟨m,hn⟩:=hn
 exact ⟨m,hn,fun h' hh=>⟨.ref D,H',hI h' hh,rfl,q⟩⟩
end
end L2
namespace L2
open PySem PySem.Spec PyProof.Rows
section
variable {X:Cx} {pins:List (Addr × Obj)} {σ:St} {H:Hp} {s:Shared} {h':Heap}
end
def N7 (lo c:Int) (n:Nat):It:=⟨fun i _=>i<n,fun i H x H'=>H'=H/\x=.int (lo+i * c),fun i _=>n<=i⟩
theorem Bt {P:Program} {w:World} {K:PySem.W.Frag} {tg:Expr} (it:Addr) (lo c:Int) (n:Nat):Turn P w K tg (N7 lo c n) [it] it (fun i h=>IsRangeIter h it (lo+(i:Nat) * c) ((n:Int)-(i:Nat)) c) where
 mem:=by simp
 obj:=fun i h st b hb=>by
   have e:b=it:=by simpa using hb
   subst e
   exact ⟨_,st,fun v z=>by cases (show Data.fields _=Data.cell v from z)⟩
 keep:=fun i h h' st k=>k it (by simp) _ st
 item:=by
   intro X hP hw hK hc i pins s σ H E I hf st hg
   subst hP hw hK
   obtain ⟨f0,f1,f2,f3,f4,f5⟩:=hf it (by simp)
   have W:=Walks.range (prog:=X.prog) (w:=X.w) (I.ok.hd hc) it lo c n
   refine W.item i s _ _ hg st fun v h' tk hv st' kk=>?_
   obtain ⟨t,rfl⟩:=hv
   have I1:Inv X pins σ H { s with heap:=h',toks:=tk }:=I.turned (fun b o hb e=>kk b o (by simpa using hb) e) f0 f1 f3 f4 f5
   exact ⟨_,rfl,uO (s:={ s with heap:=h',toks:=tk }) (n:="range_iterator") st' rfl rfl (by decide) ⟨.int (lo+i * c),H,I1,⟨t,rfl⟩,⟨rfl,rfl⟩,st',fun b hb=>(hf b hb).1⟩⟩
 done:=by
   intro X hP hw hK hc i pins s σ H E I hf st hg
   subst hP hw hK
   obtain ⟨f0,f1,f2,f3,f4,f5⟩:=hf it (by simp)
   exact wpAny_pyNext_range_end (I.ok.hd hc) st (by have:n<=i:=hg; omega) fun h' eb=>⟨rfl,I.turned (t':=s.toks) (fun b o hb e=>eb b o hb e) f0 f1 f3 f4 f5⟩
 self:=fun _ _ _ _ _ st h=>wpAny_pyIter_rangeiter st h
def abh (ta:TA):TI:=fun σ H R=>ta σ H fun vs H1=>∃ i j c:Int,vs=[.int i,.int j,.int c]/\(0<=i/\i<1000000/\0<=j/\j<1000000/\0<c/\c<1000000)/\R (N7 i c (Builtin.Range.rangeSize i j c).toNat) H1
theorem Kd {X:Cx} {tg a b c:Expr} {ta:TA} {p pos:Pos} (hg:Gl X "range") (hm:X.mg "range" = none) (ha:PA X [a,b,c] ta) (hs:starEach [a,b,c] X.env=[(false,eval a X.env),(false,eval b X.env),(false,eval c X.env)]:=by rfl) (hs2:starEach [b,c] X.env=[(false,eval b X.env),(false,eval c X.env)]:=by rfl) :
   PI X tg (.Call (.Name "range" p) [a,b,c] [] pos) (abh ta):=by
 intro pins s σ H R I h
 refine Call_ (pZ I hg hm boot_range (PyProof.Rows.callWith_type1 (eE (ha pos pins s σ H _ I h) fun us s1 ⟨vs,H1,I1,r1,q1⟩=>?_) (by rw [hs,hs2]) (by rw [hs2]; rfl)))
 obtain ⟨i,j,d,e,⟨q1,q2,q3,q4,q5,q6⟩,q⟩:=q1
 subst e
 cases r1 with
 | cons r rr =>
   cases rr with
   | cons r' rr =>
     cases rr with
     | cons r'' rr =>
       cases rr
       obtain ⟨t,rfl⟩:=r
       obtain ⟨t',rfl⟩:=r'
       obtain ⟨t'',rfl⟩:=r''
       have sz0:0<=Builtin.Range.rangeSize i j d:=by
         unfold Builtin.Range.rangeSize
         rw [if_pos q5]
         split
         . have:=Int.ediv_nonneg (a:=j-i-1) (b:=d) (by omega) (by omega)
           omega
         . exact Int.le_refl 0
       have Z8:Builtin.Range.rangeSize i j d<=1000000:=by
         unfold Builtin.Range.rangeSize
         rw [if_pos q5]
         split
         . have:=Int.ediv_le_self (a:=j-i-1) d (by omega)
           omega
         . omega
       have fits:∀ z:Int,-1<=z->z<=3000000->Builtin.Range.rangeFitsLong z=true:=fun z h1 h2=>by
         unfold Builtin.Range.rangeFitsLong
         simp
         omega
       have small:Builtin.Range.small i j d=true:=by
         unfold Builtin.Range.small
         rw [fits i (by omega) (by omega),fits j (by omega) (by omega),fits d (by omega) (by omega),fits _ (by omega) (by omega),if_pos q5,fits (j+(d-1)) (by omega) (by omega)]
         simp
       refine call_range_3 (by omega) (wpAny_pyIter_range (IsRange.new ..) small ?_) (.inl (PyProof.noPylong_small (by omega)))
       have I2:Inv X pins σ H1 { s1 with heap:=s1.heap.push { cls:=.type "range",data:=.fields #[.int i t,.int j t',.int d t''] } }:=I1.kept (t':=s1.toks) fun b o e=>Heap.get?_push_of_some _ e
       refine ⟨(s1.heap.push { cls:=.type "range",data:=.fields #[.int i t,.int j t',.int d t''] }).objs.size,[(s1.heap.push { cls:=.type "range",data:=.fields #[.int i t,.int j t',.int d t''] }).objs.size],_,_,H1,rfl,
         I2.kept (t':=s1.toks) fun b o e=>Heap.get?_push_of_some _ e,Bt _ i d (Builtin.Range.rangeSize i j d).toNat,?_,fun b hb=>?_,q⟩
       . have e1:i+((0:Nat):Int) * d=i:=by simp
         have e2:((Builtin.Range.rangeSize i j d).toNat:Int)-((0:Nat):Int)=Builtin.Range.rangeSize i j d:=by omega
         show IsRangeIter _ _ (i+((0:Nat):Int) * d) (((Builtin.Range.rangeSize i j d).toNat:Int)-((0:Nat):Int)) d
         rw [e1,e2]
         exact Heap.get?_push_size _ rfl
       . have e:b=(s1.heap.push { cls:=.type "range",data:=.fields #[.int i t,.int j t',.int d t''] }).objs.size:=by simpa using hb
         subst e
         exact I2.Ba (Nat.le_refl _) (I2.hok.fresh (Nat.le_refl _))
end L2
namespace L2
open PySem PySem.Spec PyProof.Rows
section
variable {prog:Program} {w:World} {A:Around} {E:Value->Shared->Prop} {s:Shared}
end
end L2
namespace L2
open PySem PySem.Spec PyProof.Rows
section
variable {X:Cx}
theorem tE:gC X (.builtin "sorted") (fun xs H Q=>∃ p ss,xs=[.ref p]/\dg X.K H p (ss.map V.str)/\ss.length<64/\∀ l ss',H l=none->ss'.Perm ss->sortedS ss'=true->Q (.ref l) (upd H l (.lst (ss'.map V.str)))):=by
 intro pins s σ H xs us Q I r h
 obtain ⟨p,ss,rfl,hq,h64,q⟩:=h
 obtain ⟨u,rfl,ru⟩:=vals1 r
 cases ru
 obtain ⟨its,rv,pl,_⟩:=I.list hq
 have hS:=Ss rv
 have hlen:its.length=ss.length:=by rw [<- rv.length,List.length_map]
 refine sorted_strs pl.isList hS (by omega) fun out ss' h1 h2 h3=>?_
 obtain ⟨e,he⟩:=sortedAll_at s.heap its out
 have hl:ss'.length=ss.length:=h2.length_eq
 have mJ:sizeLine=16777216:=sizeLine_eq
 refine ⟨.ref (s.heap.objs.size+1),_,I.laid (t':=s.toks) (o:=.lst (ss'.map V.str)) (fun _ _=>sortedAll_old) (Nat.le_succ _) ⟨by rw [List.length_map]; omega,out.toList,e,?_,he⟩,rfl,q _ _ (I.hok.fresh (Nat.le_succ _)) h2 h3⟩
 clear he h2 h3 hl
 generalize out.toList=l at h1
 induction h1 with
 | nil=>exact .nil
 | cons x t _ ih=>exact .cons ⟨t,rfl⟩ ih
theorem xJ (c:Nat):∀ (n:Nat) (a:Array Nat),(List.replicate n (#[c]:Array Nat)).foldl (·++·) a=a++(List.replicate n c).toArray
 | 0,a=>by simp
 | n+1,a=>by
   rw [List.replicate_succ,List.foldl_cons,xJ c n,List.replicate_succ]
   apply Array.ext'
   simp
theorem SN:iD X (binaryOp .Mult) (fun x y H Q=>∃ (c:Nat) (n:Int),x=.str ⟨#[c]⟩/\y=.int n/\1<=n/\n<=1000/\Q (.str ⟨(List.replicate n.toNat c).toArray⟩) H):=by
 intro pins s σ H x y v u Q I rx ry h
 obtain ⟨c,n,rfl,rfl,h1,h2,q⟩:=h
 obtain ⟨t,rfl⟩:=rx
 obtain ⟨t',rfl⟩:=ry
 have n1:¬ n<1:=by omega
 have l1:(⟨#[c]⟩:Str).length=1:=rfl
 refine PySem.P.mul_str (by rw [decide_eq_false (by omega),decide_eq_false (by omega)]; rfl) (fun _ _ z=>?_) (fun _ _=>?_) ?_
 . rw [l1] at z
   have:(1:Int)<=(2 ^ 63-1) / n:=by
     rw [Int.le_ediv_iff_mul_le (by omega)]
     omega
   have z':((1:Nat):Int) > (2 ^ 63-1) / n:=z
   omega
 . rw [l1,Nat.one_mul]
   show decide (n.toNat > sizeLine)=false
   rw [decide_eq_false_iff_not,sizeLine_eq]
   omega
 . rw [if_neg n1]
   by_cases e1:n=1
   . subst e1
     rw [if_pos (by simp)]
     exact ⟨.str ⟨#[c]⟩,H,I,⟨t,rfl⟩,q⟩
   . rw [if_neg (by
       intro z
       rw [Bool.or_eq_true] at z
       rcases z with z | z
       . exact e1 (beq_iff_eq.mp z)
       . rw [l1] at z; exact absurd z (by decide)),xJ]
     have e2:(#[]:Array Nat)++(List.replicate n.toNat c).toArray=(List.replicate n.toNat c).toArray:=by simp
     rw [e2]
     refine ⟨?_,?_⟩
     . show (List.replicate n.toNat c).toArray.size<=sizeLine
       rw [List.size_toArray,List.length_replicate,sizeLine_eq]; omega
     . exact ⟨.str _,H,I.tok _,⟨_,rfl⟩,q⟩
end
end L2
namespace L2
open PySem PySem.Spec PyProof.Rows
section
variable {prog:Program} {w:World} {A:Around} {E:Value->Shared->Prop} {s:Shared}
theorem Es (n:Nat):Builtin.Slice.slicePlaces ((n:Int)-1) (-1) (-1)=n:=by
 unfold Builtin.Slice.slicePlaces
 rw [if_neg (by decide)]
 show (if (n:Int)-1 > -1 then ((n:Int)-1 - -1-1) / (- -1)+1 else 0).toNat=n
 rw [show (- -1:Int)=1 by decide,Int.ediv_one]
 split <;> omega
theorem Bu {sl:Addr} {t:Tok} {n:Nat} {Q:Int × Int × Nat->Shared->Prop} (hs:s.heap.IsSliceOf sl .none .none (.int (-1) t)) (h:Q ((n:Int)-1,-1,n) s):wpAny (model prog w) A (Builtin.Slice.sliceApplied (.ref sl) (pure (n:Int))) Q E s:=by
 obtain ⟨o,g,c,d⟩:=hs
 unfold Builtin.Slice.sliceApplied Builtin.Slice.sliceFields
 refine wpAny_bind (wpAny_bind (wpAny_field g d (x:=.none) rfl (wpAny_bind (wpAny_field g d (x:=.none) rfl (wpAny_bind (wpAny_field g d (x:=.int (-1) t) rfl (wpAny_pure ?_)))))))
 refine wpAny_bind (HT.jR (.int (-1) t) ?_)
 show wpAny _ _ (if ((-1:Int) == 0)=true then _ else _) _ _ s
 rw [if_neg (by decide)]
 refine wpAny_bind (HT.jR .none (wpAny_bind (HT.jR .none (wpAny_bind (wpAny_pure ?_)))))
 show wpAny _ _ (pure ((n:Int)-1,(-1:Int),Builtin.Slice.slicePlaces ((n:Int)-1) (-1) (-1))) _ _ s
 rw [Es]
 exact wpAny_pure h
theorem N8 (xs:Array Value):((List.range xs.size).filterMap fun (m:Nat)=>xs[((xs.size:Int)-1+(m:Int) * (-1)).toNat]?)=xs.toList.reverse:=by
 have e:∀ m,m<xs.size->xs[((xs.size:Int)-1+(m:Int) * (-1)).toNat]?=xs.toList.reverse[m]?:=fun m hm=>by
   rw [List.getElem?_reverse (by simpa using hm),Array.getElem?_toList,Array.length_toList]
   congr 1
   omega
 have e2:((List.range xs.size).filterMap fun (m:Nat)=>xs[((xs.size:Int)-1+(m:Int) * (-1)).toNat]?)=(List.range xs.toList.reverse.length).filterMap fun m=>xs.toList.reverse[m]?:=by
   rw [List.length_reverse,Array.length_toList]
   have e3:∀ l:List Nat,(∀ m∈l,m<xs.size)->(l.filterMap fun (m:Nat)=>xs[((xs.size:Int)-1+(m:Int) * (-1)).toNat]?)=l.filterMap fun m=>xs.toList.reverse[m]?:=by
     intro l
     induction l with
     | nil=>intro _; rfl
     | cons x l ih =>
       intro h
       rw [List.filterMap_cons,List.filterMap_cons,e x (h x List.mem_cons_self),ih fun m hm=>h m (List.mem_cons_of_mem _ hm)]
   exact e3 _ fun m hm=>List.mem_range.mp hm
 rw [e2]
 generalize xs.toList.reverse=l
 induction l with
 | nil=>rfl
 | cons x l ih =>
   rw [List.length_cons,List.range_succ_eq_map,List.filterMap_cons]
   simp only [List.getElem?_cons_zero]
   rw [List.filterMap_map]
   congr 1
theorem Bv {t sl:Addr} {items:Array Value} {tk:Tok} {Q:Value->Shared->Prop} (ht:IsTup s.heap t items) (hs:s.heap.IsSliceOf sl .none .none (.int (-1) tk))
   (h:Q (.ref s.heap.objs.size) { s with heap:=s.heap.push { cls:=.type "tuple",data:=.seq items.toList.reverse.toArray } }) (hz:items.size<=sizeLine):wpAny (model prog w) A (getItem (.ref t) (.ref sl)) Q E s:=by
 have fits:sizeOk (.seq items.toList.reverse.toArray):=by
   show items.toList.reverse.toArray.size<=sizeLine
   rw [List.size_toArray,List.length_reverse,Array.length_toList]; exact hz
 obtain ⟨os,g,c,d⟩:=id hs
 have hT:s.TypeIs (.ref sl) "slice":=⟨os,g,c⟩
 unfold getItem
 try with_reducible refine wpAny_holding ?_
 first | refine wpAny_bind (wpAny_pure ?_) | skip
 refine wpAny_bind (wpAny_sequenceKey ht.typeIs (by decide) (wpAny_bind (wpAny_callSpecial?_slot (name:=Str.ofString "__getitem__") ht.typeIs PyProof.Rows.slot_tuple_getitem (wpAny_call_entry PyProof.Rows.slot_tuple_getitem ht.typeIs PyProof.Rows.entry_tuple_getitem ?_ (PyProof.Rows.args_tuple_getitem _ _)))))
 show wpAny _ _ (Builtin.Tuple.tupleItemsOf (.ref t) >>= _) _ _ s
 refine wpAny_bind (PyProof.Rows.tupleItemsOf_ ht (wpAny_bind (wpAny_typeOf hT ?_)))
 rw [if_pos (by decide)]
 refine wpAny_bind (Bu hs ?_)
 have no:¬ (((items.size:Int)-1 == 0 && (-1:Int) == 1 && items.size == items.size)=true):=by
   intro q
   rw [Bool.and_eq_true,Bool.and_eq_true] at q
   exact absurd q.1.2 (by decide)
 show wpAny _ _ (if ((items.size:Int)-1 == 0 && (-1:Int) == 1 && items.size == items.size)=true then _ else _) _ _ s
 rw [if_neg no,N8]
 first
   | exact wpAny_bind (m:=Builtin.Tuple.tupleExact _) (wpAny_newObj_type (wpAny_pure ⟨_,rfl,wpAny_pure h⟩) fits)
   | exact wpAny_bind (m:=Builtin.Tuple.tupleExact _) (wpAny_newObj_type (wpAny_bind (wpAny_pure (wpAny_pure ⟨_,rfl,wpAny_pure h⟩))) fits)
   | exact wpAny_bind (wpAny_bind (m:=Builtin.Tuple.tupleExact _) (wpAny_newObj_type (wpAny_pure (wpAny_pure ⟨_,rfl,wpAny_pure h⟩)) fits))
   | exact wpAny_bind (wpAny_bind (m:=Builtin.Tuple.tupleExact _) (wpAny_newObj_type (wpAny_pure ⟨_,rfl,wpAny_pure h⟩) fits))
end
theorem SQ:∀ {xs:List V} {us:List Value},Vals xs us->Vals xs.reverse us.reverse:=by
 intro xs us r
 induction r with
 | nil=>exact .nil
 | cons r _ ih =>
   rw [List.reverse_cons,List.reverse_cons]
   exact ih.append (.cons r .nil)
def X6 (K:PySem.W.Frag) (te:TE):TE:=fun σ H Q=>te σ H fun x H1=>∃ a xs,x=.ref a/\bM K H1 a xs/\∀ p,H1 p=none->Q (.ref p) (upd H1 p (.tup xs.reverse))
theorem Oa {X:Cx} {e:Expr} {te:TE} {k:Nat} {p1 p2 p3 pos:Pos} (he:PE X e te):PE X (.Subscript e (.Slice none none (some (.UnaryOp .USub (.Constant (.int 1) k p1) p2)) p3) pos) (X6 X.K te):=by
 intro pins s σ H Q I h
 refine Subscript_ (eE (he pins s σ H _ I h) fun v s1 ⟨x,H1,I1,r1,q1⟩=>?_)
 obtain ⟨a,xs,rfl,hq,q⟩:=q1
 cases (show v=Value.ref a from r1)
 refine wpAny_Slice ?_
 rw [evalPart_none]
 refine wpAny_pure ?_
 refine wpAny_pure ?_
 rw [evalPart_some]
 have pm:PE X (.UnaryOp .USub (.Constant (.int 1) k p1) p2) (tUn _ (tC (.int 1))):=wR J5 aD
 refine eE (pm pins s1 σ H1 (fun z H2=>z=.int (-1)/\H2=H1) I1 ⟨rfl,rfl⟩) fun u s2 ⟨z,H2,I2,r2,ez,eH⟩=>?_
 subst ez
 obtain rfl:H1=H2:=eH.symm
 obtain ⟨t,rfl⟩:=r2
 obtain ⟨its,rv,ht,hz⟩:=I2.tuple hq
 have hlen:its.toArray.size=xs.length:=by rw [List.size_toArray]; exact rv.length.symm
 have I3:Inv X pins σ H1 { s2 with heap:=s2.heap.push { cls:=.type "slice",data:=.fields #[.none,.none,.int (-1) t] } }:=I2.kept (t':=s2.toks) fun b ob q=>Heap.get?_push_of_some _ q
 obtain ⟨its,rv,ht,hz⟩:=I3.tuple hq
 show wpAny (model X.prog X.w) X.A (subscriptTail e (.Slice none none (some (.UnaryOp .USub (.Constant (.int 1) k p1) p2)) p3) (.ref a) (.ref s2.heap.objs.size)) (EP X pins σ Q) X.xe { s2 with heap:=s2.heap.push { cls:=.type "slice",data:=.fields #[.none,.none,.int (-1) t] } }
 refine tail_any (ops:=[.ref a,.ref s2.heap.objs.size]) ht.typeIs PyProof.Rows.slot_tuple_getitem.lookup (Bv ht (Heap.IsSliceOf.new ..) ?_ (by rw [List.size_toArray,<- rv.length]; exact hz)) (by with_unfolding_all rfl)
 refine ⟨.ref (s2.heap.push { cls:=.type "slice",data:=.fields #[.none,.none,.int (-1) t] }).objs.size,_,I3.laid (t':=s2.toks) (o:=.tup xs.reverse) (fun b ob q=>Heap.get?_push_of_some _ q) (Nat.le_refl _) ?_,rfl,q _ (I3.hok.fresh (Nat.le_refl _))⟩
 exact ⟨by rw [List.length_reverse]; exact hz,_,SQ rv,mC.new _ _⟩
end L2
namespace L2
open PySem PySem.Spec PyProof.Rows
section
variable {X:Cx}
theorem Ke:MtM X "dict.update" (fun x xs H Q=>∃ a b kvs more,x=.ref a/\xs=[.ref b]/\a≠b/\H a=some (.dK kvs)/\H b=some (.dK more)/\kvs.length+more.length<=sizeLine/\Q .non (upd H a (.dK (gA kvs more)))):=by
 intro pins s σ H x xs v us Q I rx rs h
 obtain ⟨a,b,kvs,more,rfl,rfl,ne,ha,hb,hz,q⟩:=h
 cases (show v=Value.ref a from rx)
 obtain ⟨u,rfl,ru⟩:=vals1 rs
 cases ru
 obtain ⟨z1,d1,vs1,X7,dd1⟩:=xg I.hok ha
 obtain ⟨z2,d2,vs2,X8,dd2⟩:=xg I.hok hb
 refine call_meetsIn PySem.F.slot_dict_update dd1.typeIs PySem.F.entry_dict_update (PySem.F.args_dict_update_2 _ _) (meets_dict_update (bW X.prog X.w) a b ne d2) ⟨vs1,vs2,dd1,dd2,by rw [<- X7.length,<- X8.length]; exact hz,fun h' m1 m2 sb=>?_⟩
 have he:∃ q,h'.get? a=some q:=let ⟨q,_,_,hq,_⟩:=m1; ⟨q,hq⟩
 have hl:(gA kvs more).length<=sizeLine:=by
   refine Nat.le_trans ?_ hz
   clear hz q X8 dd2 m1 m2 hb z2 ha X7 dd1 z1
   induction more generalizing kvs with
   | nil=>exact Nat.le_refl _
   | cons p r ih =>
     have h1:=ih (kvs:=putK kvs p.1 p.2)
     have h2:=fY kvs p.1 p.2
     show (gA (putK kvs p.1 p.2) r).length<=_
     rw [List.length_cons]
     omega
 exact ⟨.non,_,ux I (by rw [ha]; exact True.intro) sb he (uT hl d1 (X8.merge X7) m1),rfl,q⟩
end
section
variable {prog:Program} {w:World} {A:Around} {E:Value->Shared->Prop} {s:Shared}
theorem xK {x:Value} {ss:List Str} {Q:Value->Shared->Prop} (h64:ss.length<64)
   (col:∀ (R:List Value->Shared->Prop),(∀ (h':Heap) (tk:Nat) (vs:List Value),(∀ b o,s.heap.get? b=some o->h'.get? b=some o)->StrsAre vs ss->R vs { s with heap:=h',toks:=tk })->wpAny (model prog w) A.in1 (collect x) R E s)
   (h:∀ (h1 h':Heap) (tk:Nat) (out:List Value) (ss':List Str) (n:Nat),(∀ b o,s.heap.get? b=some o->h1.get? b=some o)->(∀ b o,h1.get? b=some o->h'.get? b=some o)->h'.get? h1.objs.size=some (seqObj "list" out.toArray n)->StrsAre out ss'->ss'.Perm ss->sortedS ss'=true->Q (.ref h1.objs.size) { s with heap:=h',toks:=tk }) :
   wpAny (model prog w) A (call (.builtin "sorted") [x]) Q E s:=by
 refine Calls.call_function_entry kind_sorted plain_sorted entry_sorted (args_sorted1 _) ?_
 unfold Builtin.«sorted»
 refine wpAny_bind (m:=checkCount "sorted" 1 1 _) (wpAny_pure ?_)
 refine wpAny_bind (col _ fun h' tk vs kk hS=>?_)
 have hl:vs.length=ss.length:=by rw [<- hS.strs,List.length_map]
 have mJ:sizeLine=16777216:=sizeLine_eq
 refine wpAny_bind (wpAny_newList ?_ (by omega))
 have g0:(h'.push (seqObj "list" vs.toArray 0)).get? h'.objs.size=some (seqObj "list" vs.toArray 0):=Heap.get?_push_size _ rfl
 refine wpAny_bind (wpAny_holding (wpAny_call_entry slot_list_sort (s:={ s with heap:=h'.push (seqObj "list" vs.toArray 0),toks:=tk }) ⟨_,g0,rfl⟩ entry_list_sort
   (list_sort_treeK (s:={ s with heap:=h'.push (seqObj "list" vs.toArray 0),toks:=tk }) strKind_oneLt g0 hS.keysOf (fun v₁ v₂ rest e=>keyKind_strs (by rw [<- e]; exact hS)) (by omega) fun st' p1 p2=>⟨_,rfl,?_⟩) (args_list_sort _)))
 obtain ⟨ss',q1,q2,q3⟩:=sorted_out_str hS p1 p2
 obtain ⟨n,hn⟩:=sortedHeap_at (vs:=vs) (out:=(arrOf st').map (·.2)) g0
 refine wpAny_pure ⟨_,rfl,h h' _ tk ((arrOf st').map (·.2)).toList ss' n kk (fun b o e1=>?_) (by rw [Array.toArray_toList]; exact hn) q1 q2 q3⟩
 have lt:b<h'.objs.size:=Heap.lt_size e1
 show (sortedHeap (h'.push (seqObj "list" vs.toArray 0)) h'.objs.size vs _).get? b=some o
 rw [sortedHeap_old (Nat.ne_of_lt lt) (by rw [Heap.size_push]; exact Nat.lt_succ_of_lt lt)]
 exact Heap.get?_push_of_some _ e1
end
section
variable {X:Cx}
theorem Ie:∀ {ss:List Str} {us:List Value},StrsAre us ss->Vals (ss.map V.str) us:=by
 intro ss us h
 induction h with
 | nil=>exact .nil
 | cons x t _ ih=>exact .cons ⟨t,rfl⟩ ih
theorem yS:∀ {ss:List Str} {us:List Value},us.length=ss.length->(∀ (i:Nat) (v:Value),us[i]?=some v->∃ x t,ss[i]?=some x/\v=.str x t)->StrsAre us ss
 | [],[],_,_=>.nil
 | x :: ss,u :: us,hl,h=>by
   obtain ⟨y,t,e,rfl⟩:=h 0 u rfl
   cases (show some x=some y from e)
   exact .cons x t (yS (by simpa using hl) fun i v e=>h (i+1) v (by simpa using e))
 | [],_ :: _,hl,_=>by simp at hl
 | _ :: _,[],hl,_=>by simp at hl
theorem yU (hc:X.calm=true):gC X (.builtin "sorted") (fun xs H Q=>∃ p kvs ss,xs=[.ref p]/\H p=some (.dK kvs)/\kvs.map (·.1)=ss.map Sum.inr/\ss.length<64/\∀ l ss',H l=none->ss'.Perm ss->sortedS ss'=true->Q (.ref l) (upd H l (.lst (ss'.map V.str)))):=by
 intro pins s σ H xs us Q I r h
 obtain ⟨p,kvs,ss,rfl,hp,hk,h64,q⟩:=h
 obtain ⟨u,rfl,ru⟩:=vals1 r
 cases ru
 obtain ⟨z,d,vs,rel,dd⟩:=xg I.hok hp
 have hl:kvs.length=ss.length:=by have:=congrArg List.length hk; simpa using this
 have hvl:vs.length=ss.length:=by rw [<- rel.length]; exact hl
 have mJ:sizeLine=16777216:=sizeLine_eq
 obtain ⟨ep,hat⟩:=dd.dictAt
 refine xK h64 (fun R hR=>PySem.W.kdu_collect (A:=X.A.in1) (PySem.W.kdl_dict (knd:=bW X.prog X.w) (kvs:=vs) (ep:=ep) d) (by simpa using I.ok.hd hc) hat (by omega) fun h' tk acc kk hacc=>hR h' tk acc.toList kk ?_) fun h1 h' tk out ss' n k1 k2 ho hS hp2 hs=>?_
 . refine yS (by rw [Array.length_toList]; exact hacc.1.trans hvl) fun i v e=>?_
   obtain ⟨k,x,ek,hk'⟩:=hacc.2 i v (by simpa using e)
   have ek2:(kvs.map (·.1))[i]?=some k:=by
     rw [rel.keys,List.getElem?_map,ek]; rfl
   rw [hk,List.getElem?_map] at ek2
   cases es:ss[i]? with
   | none=>rw [es] at ek2; cases ek2
   | some y =>
     rw [es] at ek2
     cases (show some (Sum.inr y:Key)=some k from ek2)
     rcases cB (show pP (Sum.inr y) v=true from hk') with ⟨j,t,e1,e2⟩ | ⟨x',t,e1,e2⟩ | ⟨e1,e2⟩
     . cases e1
     . cases e1
       exact ⟨y,t,rfl,e2⟩
     . cases e1
 . have I1:Inv X pins σ H { s with heap:=h1,toks:=tk }:=I.kept k1
   have hl':ss'.length=ss.length:=hp2.length_eq
   exact ⟨.ref h1.objs.size,_,I1.laid (t':=tk) (o:=.lst (ss'.map V.str)) k2 (Nat.le_refl _) ⟨by rw [List.length_map]; omega,out,n,Ie hS,ho⟩,rfl,q _ _ (I1.hok.fresh (Nat.le_refl _)) hp2 hs⟩
end
end L2
namespace L2
open PySem PySem.Spec PyProof.Rows
def Et (h:Heap) (d:Addr) (es:Array DictEntry) (ep:Nat):Prop:=∃ o,h.get? d=some o/\o.ExactDict/\o.data=.dict es ep
section
variable {prog:Program} {w:World} {A:Around} {E:Value->Shared->Prop} {s:Shared}
theorem Et.typ {d:Addr} {es:Array DictEntry} {ep:Nat} (R:Et s.heap d es ep):s.TypeIs (.ref d) "dict":=let ⟨o,e,x,_⟩:=R; ⟨o,e,x.1⟩
theorem SX {d:Addr} {es:Array DictEntry} {ep:Nat} {Q:Value->Shared->Prop} (nS:(d == sysModules)=false) (R:Et s.heap d es ep)
   (q:Q (.ref s.heap.objs.size) { s with heap:=s.heap.push { cls:=.type "dict_keyiterator",data:=.fields #[.ref d,.int 0 0,.int es.size 0,.int ep 0] } }):wpAny (model prog w) A (pyIter (.ref d)) Q E s:=by
 have T:=R.typ
 obtain ⟨o,e,_,dat⟩:=R
 refine wpAny_pyIter_slot T PySem.F.slot_dict_iter (wpAny_call_entry PySem.F.slot_dict_iter T PySem.F.entry_dict_iter ?_ (PySem.F.args_dict_iter_1 _))
 unfold Builtin.«dict.__iter__»
 refine wpAny_bind ?_
 unfold Builtin.Dict.dictSlotNone
 refine wpAny_bind (wpAny_notOrdered_dict T ?_)
 show wpAny _ _ (pure (Value.ref d)) _ _ s
 refine wpAny_pure ?_
 show wpAny _ _ (Builtin.Dict.showsAll d >>= _) _ _ s
 unfold Builtin.Dict.showsAll
 rw [if_neg (by rw [nS]; exact Bool.false_ne_true)]
 refine wpAny_bind (wpAny_pure (wpAny_bind (wpAny_dictEntries e dat (wpAny_bind (wpAny_dictEpoch e dat ?_)))))
 refine wpAny_bind (wpAny_newObj_type (wpAny_pure ⟨_,rfl,"dict_keyiterator",_,⟨_,Heap.get?_push_size _ rfl,rfl⟩,PySem.F.slot_dict_keyiterator_next.lookup,?_⟩))
 simpa [rawInt] using q
theorem Tc {it d:Addr} {i ep:Nat} {es:Array DictEntry} {Q:Option Value->Shared->Prop} (K:s.heap.IsKeyIter it d i es.size ep) (R:Et s.heap d es ep) (lt:i<es.size)
   (q:∀ h',h'.IsKeyIter it d (i+1) es.size ep->Heap.SameBut it s.heap h'->Q (some es[i].key) { s with heap:=h' }):wpAny (model prog w) A (pyNext (.ref it)) Q E s:=by
 obtain ⟨o,e,c,dt⟩:=id K
 obtain ⟨od,e2,_,dd⟩:=R
 unfold pyNext
 refine wpAny_bind (wpAny_attempt (wpAny_callSpecial?_slot (name:=Str.ofString "__next__") K.typeIs PySem.F.slot_dict_keyiterator_next (wpAny_call_entry PySem.F.slot_dict_keyiterator_next K.typeIs PySem.F.entry_dict_keyiterator_next ?_ (PySem.F.args_dict_keyiterator_next_1 _))))
 refine wpAny_bind (wpAny_pure (wpAny_bind (wpAny_bind ?_)))
 first | refine wpAny_bind (wpAny_typeNameOfWhole_keyiter K.typeIs (wpAny_pure ?_)) | refine wpAny_bind (wpAny_typeNameOf_keyiter K.typeIs (wpAny_pure ?_))
 refine wpAny_bind (wpAny_fieldsOf e dt ?_)
 have own:Builtin.Dict_items.ownsTuple "dict_keyiterator" = false:=by decide
 simp only [own,Bool.false_eq_true,if_false]
 show wpAny _ _ (if (Value.ref d == Value.none)=true then _ else _) _ _ s
 rw [if_neg (show ¬ ((Value.ref d == Value.none)=true) from Bool.false_ne_true)]
 refine wpAny_bind (wpAny_pure (wpAny_bind (wpAny_dictEntries e2 dd ?_)))
 rw [if_neg (by simp)]
 refine wpAny_bind (wpAny_pure (wpAny_bind (wpAny_dictEpoch e2 dd ?_)))
 rw [if_neg (by simp)]
 refine wpAny_pure ?_
 simp only [show ¬ ((i:Int)<0) from by omega,if_false,Int.toNat_natCast,Array.getElem?_eq_getElem lt]
 refine wpAny_bind ?_
 first | refine wpAny_bind (wpAny_typeNameOfWhole_keyiter K.typeIs (wpAny_pure ?_)) | refine wpAny_bind (wpAny_typeNameOf_keyiter K.typeIs (wpAny_pure ?_))
 refine wpAny_bind (wpAny_isOneOf_keyiter K.typeIs ?_)
 show wpAny _ _ (setField (.ref it) 1 (rawInt ((i:Int)+1)) >>= _) _ _ s
 refine wpAny_bind (wpAny_setField e dt (by simp) ?_)
 have K':(s.heap.update it (Obj.mapFields (·.setIfInBounds 1 (rawInt ((i:Int)+1))))).IsKeyIter it d (i+1) es.size ep:=⟨_,Heap.get?_update_self _ e (Obj.isFreed_of_fields (Obj.data_mapFields dt _)),(Obj.cls_mapFields ..).trans c,by rw [Obj.data_mapFields dt]; simp [rawInt]⟩
 refine wpAny_bind (wpAny_holding (wpAny_bind (wpAny_isOneOf_keyiter (s:={ s with heap:=s.heap.update it (Obj.mapFields (·.setIfInBounds 1 (rawInt ((i:Int)+1)))) }) K'.typeIs ?_)))
 show wpAny _ _ (pure es[i].key) _ _ _
 exact wpAny_pure (wpAny_pure ⟨_,rfl,wpAny_pure (q _ K' (Heap.SameBut.update ..))⟩)
theorem Yb {it d:Addr} {ep:Nat} {es:Array DictEntry} {Q:Option Value->Shared->Prop} (hh:A.handled=none) (K:s.heap.IsKeyIter it d es.size es.size ep) (R:Et s.heap d es ep) (q:∀ h',Heap.ExtBut it s.heap h'->Q none { s with heap:=h' }) :
   wpAny (model prog w) A (pyNext (.ref it)) Q E s:=by
 obtain ⟨o,e,c,dt⟩:=id K
 obtain ⟨od,e2,_,dd⟩:=R
 unfold pyNext
 refine wpAny_bind (wpAny_attempt (wpAny_callSpecial?_slot (name:=Str.ofString "__next__") K.typeIs PySem.F.slot_dict_keyiterator_next (wpAny_call_entry PySem.F.slot_dict_keyiterator_next K.typeIs PySem.F.entry_dict_keyiterator_next ?_ (PySem.F.args_dict_keyiterator_next_1 _))))
 refine wpAny_bind (wpAny_pure (wpAny_bind (wpAny_bind ?_)))
 first | refine wpAny_bind (wpAny_typeNameOfWhole_keyiter K.typeIs (wpAny_pure ?_)) | refine wpAny_bind (wpAny_typeNameOf_keyiter K.typeIs (wpAny_pure ?_))
 refine wpAny_bind (wpAny_fieldsOf e dt ?_)
 have own:Builtin.Dict_items.ownsTuple "dict_keyiterator" = false:=by decide
 simp only [own,Bool.false_eq_true,if_false]
 show wpAny _ _ (if (Value.ref d == Value.none)=true then _ else _) _ _ s
 rw [if_neg (show ¬ ((Value.ref d == Value.none)=true) from Bool.false_ne_true)]
 refine wpAny_bind (wpAny_pure (wpAny_bind (wpAny_dictEntries e2 dd ?_)))
 rw [if_neg (by simp)]
 refine wpAny_bind (wpAny_pure (wpAny_bind (wpAny_dictEpoch e2 dd ?_)))
 rw [if_neg (by simp)]
 refine wpAny_pure ?_
 simp only [show ¬ ((es.size:Int)<0) from by omega,if_false,Int.toNat_natCast,Array.getElem?_eq_none (Nat.le_refl es.size)]
 refine wpAny_bind ?_
 first | refine wpAny_bind (wpAny_typeNameOfWhole_keyiter K.typeIs (wpAny_pure ?_)) | refine wpAny_bind (wpAny_typeNameOf_keyiter K.typeIs (wpAny_pure ?_))
 show wpAny _ _ (setField (.ref it) 0 .none >>= _) _ _ s
 refine wpAny_bind (wpAny_setField e dt (by simp) ?_)
 show wpAny _ _ (newExc (.type "StopIteration") [] >>= _) _ _ _
 refine wpAny_bind ?_
 simp only [newExc,newTuple]
 refine wpAny_bind (wpAny_newObj_type ?_ (by size_fits))
 refine wpAny_bind (m:=firstArgMember _ _) (wpAny_of_eq (a:=Value.none) (by first | rfl | (simp only [firstArgMember]; rfl)) (wpAny_newObj_type ?_ (by size_fits)))
 simp only [raiseNew]
 refine wpAny_bind (wpAny_handled ?_)
 rw [show A.in1.handled=none from hh]
 refine (wpAny_bind (wpAny_pure (wpAny_throw ?_)))
 refine (wpAny_bind (wpAny_isInstance (T:="StopIteration") (b:=true) ⟨_,Heap.get?_push_size _ rfl,rfl⟩ isSubtype_stop ?_))
 exact wpAny_pure (q _ (((Heap.SameBut.update ..).extBut.push _).push _))
theorem Yc {d:Addr} {es:Array DictEntry} {ep:Nat} (nS:(d == sysModules)=false):PySem.W.KdlSrc prog w "dict" d d es.size (fun i v=>∃ e,es[i]?=some e/\v=e.key) (fun h=>Et h d es ep) where
 type:=fun _ R=>R.typ
 there:=fun _ R=>let ⟨_,e,_⟩:=R; ⟨Heap.lt_size e,Heap.lt_size e⟩
 keep:=fun _ _ R hk=>let ⟨o,e,r⟩:=R; ⟨o,hk d (.inl rfl) o e,r⟩
 notList:=by decide
 notTuple:=by decide
 hint:=fun _ _ _ _ R q=>PySem.W.kdl_hint_dict R.typ q
 iter:=fun A s hh R=>by
   have lt:d<s.heap.objs.size:=let ⟨_,e,_⟩:=R; Heap.lt_size e
   have ne:d≠s.heap.objs.size:=Nat.ne_of_lt lt
   refine ⟨_,fun i h=>h.IsKeyIter s.heap.objs.size d i es.size ep/\Et h d es ep,(fun _ _ q=>SX nS R q),⟨fun b hb=>by simp at hb; simp [hb],fun i h h' st hk=>?_,fun i s' Q E hi st q=>?_,fun s' Q E st q=>?_,fun i s' Q E st q=>wpAny_pyIter_keyiter st.1 q⟩,⟨⟨_,Heap.get?_push_size _ rfl,rfl,rfl⟩,let ⟨o,e,r⟩:=R; ⟨o,Heap.get?_push_of_some _ e,r⟩⟩⟩
   . obtain ⟨⟨o,e,r⟩,⟨o2,e2,r2⟩⟩:=st
     exact ⟨⟨o,hk _ (by simp) o e,r⟩,⟨o2,hk d (by simp) o2 e2,r2⟩⟩
   . refine Tc st.1 st.2 hi fun h' K' sb=>?_
     exact q _ h' s'.toks ⟨es[i],by simp [hi],rfl⟩ ⟨K',let ⟨o,e,r⟩:=st.2; ⟨o,sb.extBut d o ne e,r⟩⟩ fun b o hb e=>sb.extBut b o (fun z=>hb (by simp [z])) e
   . exact Yb hh st.1 st.2 fun h' he=>q h' s'.toks fun b o hb e=>he b o (fun z=>hb (by simp [z])) e
end
end L2
namespace L2
open PySem PySem.Spec PyProof.Rows PySem.W
def ni {α:Type} (n:Nat) (lt:Nat->Nat->Bool):KasT α->Option α
 | .ret a=>some a
 | .ask i j k=>if i<n/\j<n then ni n lt (k (lt i j)) else none
theorem Bw {α:Type} {n:Nat} {lt:Nat->Nat->Bool} {ask:Nat->Nat->(Bool->Shared->Prop)->Shared->Prop} {s:Shared} (ha:∀ i j C,i<n->j<n->C (lt i j) s->ask i j C s):∀ (t:KasT α) (a:α) (Q:α->Shared->Prop),ni n lt t=some a->Q a s->t.kasWp ask Q s
 | .ret b,a,Q,h,q=>by
   cases (show some b=some a from h)
   exact q
 | .ask i j k,a,Q,h,q=>by
   have h':(if i<n/\j<n then ni n lt (k (lt i j)) else none)=some a:=h
   by_cases c:i<n/\j<n
   . rw [if_pos c] at h'
     exact ha i j _ c.1 c.2 (Bw ha (k (lt i j)) a Q h' q)
   . rw [if_neg c] at h'; cases h'
theorem Bx {α:Type} {n:Nat} {lt lt':Nat->Nat->Bool} (h:∀ i j,i<n->j<n->lt i j=lt' i j):∀ t:KasT α,ni n lt t=ni n lt' t
 | .ret _=>rfl
 | .ask i j k=>by
   show (if i<n/\j<n then ni n lt (k (lt i j)) else none)=if i<n/\j<n then ni n lt' (k (lt' i j)) else none
   by_cases c:i<n/\j<n
   . rw [if_pos c,if_pos c,h i j c.1 c.2]; exact Bx h _
   . rw [if_neg c,if_neg c]
def rk (r:List Nat) (i j:Nat):Bool:=decide (r.getD i 0<r.getD j 0)
def Eu (n:Nat) (r:List Nat):Bool:=match ni n (rk r) (kas_sort n) with
 | some p=>(p.toList.map fun i=>r.getD i 0) == List.range n && p.toList.all fun i=>decide (i<n)
 | none=>false
def Ew (x:Nat):List Nat->List (List Nat)
 | []=>[[x]]
 | y :: l=>(x :: y :: l) :: (Ew x l).map (y :: ·)
def perms:List Nat->List (List Nat)
 | []=>[[]]
 | x :: l=>(perms l).flatMap (Ew x)
theorem uZ (x:Nat):∀ (a b:List Nat),a++x :: b∈Ew x (a++b)
 | [],[]=>List.mem_cons_self
 | [],_ :: _=>List.mem_cons_self
 | y :: a,b=>List.mem_cons_of_mem _ (List.mem_map.mpr ⟨_,uZ x a b,rfl⟩)
theorem xM:∀ (l l':List Nat),l'.Perm l->l'∈perms l
 | [],l',h=>by rw [List.Perm.eq_nil h]; exact List.mem_cons_self
 | x :: l,l',h=>by
   obtain ⟨a,b,rfl⟩:=List.append_of_mem (h.mem_iff.mpr List.mem_cons_self)
   have h2:(a++b).Perm l:=(List.perm_middle.symm.trans h).cons_inv
   exact List.mem_flatMap.mpr ⟨a++b,xM l _ h2,uZ x a b⟩
theorem Yd:((List.range 7).all fun n=>n<2 || (perms (List.range n)).all (Eu n))=true:=by decide +kernel
theorem Ob {n:Nat} {r:List Nat} (h2:2<=n) (h6:n<=6) (hr:r.Perm (List.range n)):Eu n r=true:=by
 have h:=List.all_eq_true.mp Yd n (List.mem_range.mpr (by omega))
 rw [Bool.or_eq_true] at h
 rcases h with h | h
 . have:=of_decide_eq_true h; omega
 . exact List.all_eq_true.mp h r (xM _ _ hr)
structure Strict {κ:Type} (lt:κ->κ->Bool):Prop where
 Z9:∀ a,lt a a=false
 trans:∀ a b c,lt a b=true->lt b c=true->lt a c=true
 tot:∀ a b,a≠b->lt a b=true∨lt b a=true
section
variable {κ:Type} {lt:κ->κ->Bool} (S:Strict lt)
include S
def rankOf (lt:κ->κ->Bool) (ks:List κ) (k:κ):Nat:=ks.countP fun k'=>lt k' k
omit S in
theorem xO {p q:κ->Bool} {ks:List κ} (h:∀ x∈ks,p x=true->q x=true) {z:κ} (hz:z∈ks) (h1:p z=false) (h2:q z=true):ks.countP p<ks.countP q:=by
 induction ks with
 | nil=>cases hz
 | cons x l ih =>
   have hl:l.countP p<=l.countP q:=List.countP_mono_left fun y hy=>h y (List.mem_cons_of_mem _ hy)
   rcases List.mem_cons.mp hz with e | e
   . subst e
     rw [List.countP_cons,List.countP_cons,h1,h2]
     simp; omega
   . have hlt:=ih (fun y hy=>h y (List.mem_cons_of_mem _ hy)) e
     rw [List.countP_cons,List.countP_cons]
     cases hp:p x with
     | false=>simp; omega
     | true=>rw [h x List.mem_cons_self hp]; simp; omega
theorem uz {ks:List κ} {a b:κ} (ha:a∈ks) (h:lt a b=true):rankOf lt ks a<rankOf lt ks b :=
 xO (fun x _ hx=>S.trans _ _ _ hx h) ha (S.Z9 a) h
theorem BJ {ks:List κ} {a b:κ} (ha:a∈ks) (hb:b∈ks):decide (rankOf lt ks a<rankOf lt ks b)=lt a b:=by
 cases h:lt a b with
 | true=>exact decide_eq_true (uz S ha h)
 | false =>
   refine decide_eq_false fun z=>?_
   rcases Classical.em (a=b) with e | e
   . subst e; omega
   . rcases S.tot a b e with q | q
     . rw [h] at q; cases q
     . have:=uz S hb q; omega
theorem Ey {ks:List κ} {a:κ} (ha:a∈ks):rankOf lt ks a<ks.length:=by
 have h:=xO (p:=fun k'=>lt k' a) (q:=fun _=>true) (ks:=ks) (fun _ _ _=>rfl) ha (S.Z9 a) rfl
 rw [List.countP_true] at h
 exact h
theorem Ez {ks:List κ} (hn:ks.Nodup):(ks.map (rankOf lt ks)).Perm (List.range ks.length):=by
 have nd:(ks.map (rankOf lt ks)).Nodup:=by
   rw [List.nodup_iff_pairwise_ne,List.pairwise_map]
   refine List.Pairwise.imp_of_mem (fun {a b} ha hb h=>?_) (List.nodup_iff_pairwise_ne.mp hn)
   intro z
   rcases S.tot a b h with q | q
   . have:=uz S ha q; omega
   . have:=uz S hb q; omega
 have sub:(ks.map (rankOf lt ks)) ⊆ List.range ks.length:=fun x hx=>by
   obtain ⟨k,hk,rfl⟩:=List.mem_map.mp hx
   exact List.mem_range.mpr (Ey S hk)
 rw [List.perm_ext_iff_of_nodup nd List.nodup_range]
 intro x
 constructor
 . exact fun h=>sub h
 . intro h
   apply Classical.byContradiction
   intro hx
   have h1:(x :: ks.map (rankOf lt ks)).Nodup:=List.nodup_cons.mpr ⟨hx,nd⟩
   have h2:(x :: ks.map (rankOf lt ks)) ⊆ List.range ks.length:=fun y hy=>by
     rcases List.mem_cons.mp hy with e | e
     . rw [e]; exact h
     . exact sub e
   have:=h1.length_le_of_subset h2
   rw [List.length_cons,List.length_map,List.length_range] at this
   omega
theorem Oc {ks:List κ} (hn:ks.Nodup) (h2:2<=ks.length) (h6:ks.length<=6) (d:κ) :
   ∃ p:Array Nat,ni ks.length (fun i j=>lt (ks.getD i d) (ks.getD j d)) (kas_sort ks.length)=some p/\(p.toList.map fun i=>ks.getD i d).Perm ks/\(p.toList.map fun i=>ks.getD i d).Pairwise (fun a b=>lt a b=true)/\∀ i∈p.toList,i<ks.length:=by
 have hp:=Ez S hn
 have hc:=Ob h2 h6 hp
 have at':∀ i,i<ks.length->(ks.map (rankOf lt ks)).getD i 0=rankOf lt ks (ks.getD i d):=fun i hi=>by
   simp [List.getD,List.getElem?_map,List.getElem?_eq_getElem hi]
 have mem:∀ i,i<ks.length->ks.getD i d∈ks:=fun i hi=>by
   simp only [List.getD,List.getElem?_eq_getElem hi,Option.getD_some]
   exact List.getElem_mem hi
 have e:ni ks.length (fun i j=>lt (ks.getD i d) (ks.getD j d)) (kas_sort ks.length)=ni ks.length (rk (ks.map (rankOf lt ks))) (kas_sort ks.length):=Bx (fun i j hi hj=>by
   unfold rk
   rw [at' i hi,at' j hj,BJ S (mem i hi) (mem j hj)]) _
 unfold Eu at hc
 rw [<- e] at hc
 cases hr:ni ks.length (fun i j=>lt (ks.getD i d) (ks.getD j d)) (kas_sort ks.length) with
 | none=>rw [hr] at hc; cases hc
 | some p =>
   rw [hr] at hc
   have hc':=Bool.and_eq_true_iff.mp hc
   have h1:(p.toList.map fun i=>(ks.map (rankOf lt ks)).getD i 0)=List.range ks.length:=by simpa using hc'.1
   have hb:∀ i∈p.toList,i<ks.length:=fun i hi=>of_decide_eq_true (List.all_eq_true.mp hc'.2 i hi)
   have h1':(p.toList.map fun i=>rankOf lt ks (ks.getD i d))=List.range ks.length:=by
     rw [<- h1]
     exact List.map_congr_left fun i hi=>(at' i (hb i hi)).symm
   have pw:(p.toList.map fun i=>ks.getD i d).Pairwise (fun a b=>lt a b=true):=by
     have h3:(p.toList.map fun i=>rankOf lt ks (ks.getD i d)).Pairwise (·<·):=by rw [h1']; exact List.pairwise_lt_range
     rw [List.pairwise_map] at h3 ⊢
     refine List.Pairwise.imp_of_mem (fun {a b} ha hb' h=>?_) h3
     rw [<- BJ S (mem a (hb a ha)) (mem b (hb b hb'))]
     exact decide_eq_true h
   refine ⟨p,rfl,?_,pw,hb⟩
   have nd:(p.toList.map fun i=>ks.getD i d).Nodup:=by
     rw [List.nodup_iff_pairwise_ne]
     refine pw.imp fun {a b} h z=>?_
     subst z
     rw [S.Z9] at h; cases h
   rw [List.perm_ext_iff_of_nodup nd hn]
   have sub:(p.toList.map fun i=>ks.getD i d) ⊆ ks:=fun x hx=>by
     obtain ⟨i,hi,rfl⟩:=List.mem_map.mp hx
     exact mem i (hb i hi)
   have len:(p.toList.map fun i=>ks.getD i d).length=ks.length:=by
     have:=congrArg List.length h1'
     rw [List.length_map,List.length_range] at this
     rw [List.length_map]; exact this
   intro x
   constructor
   . exact fun h=>sub h
   . intro h
     apply Classical.byContradiction
     intro hx
     have q1:(x :: p.toList.map fun i=>ks.getD i d).Nodup:=List.nodup_cons.mpr ⟨hx,nd⟩
     have q2:(x :: p.toList.map fun i=>ks.getD i d) ⊆ ks:=fun y hy=>by
       rcases List.mem_cons.mp hy with e | e
       . rw [e]; exact h
       . exact sub e
     have:=q1.length_le_of_subset q2
     rw [List.length_cons,len] at this
     omega
end
end L2
namespace L2
open PySem PySem.Spec PyProof.Rows PySem.W
def slt (a b:Str):Bool:=decide (a.cps.toList<b.cps.toList)
theorem Td {a b:Str} (h:a.cps.toList=b.cps.toList):a=b:=by
 cases a; cases b
 congr 1
 exact Array.toList_inj.mp h
theorem iu:Strict slt where
 Z9:=fun a=>decide_eq_false (List.lt_irrefl _)
 trans:=fun a b c h1 h2=>decide_eq_true (List.lt_trans (of_decide_eq_true h1) (of_decide_eq_true h2))
 tot:=fun a b h=>by
   rcases Classical.em (a.cps.toList<b.cps.toList) with q | q
   . exact .inl (decide_eq_true q)
   . rcases Classical.em (b.cps.toList<a.cps.toList) with q2 | q2
     . exact .inr (decide_eq_true q2)
     . exact absurd (Td (List.le_antisymm q2 q)) h
def Od (a b:Str × Str):Bool:=if a.1=b.1 then (if a.2=b.2 then false else slt a.2 b.2) else slt a.1 b.1
theorem EY:Strict Od where
 Z9:=fun a=>by unfold Od; simp
 trans:=fun a b c h1 h2=>by
   unfold Od at h1 h2 ⊢
   have T:=iu.trans
   have R:=iu.Z9
   by_cases e1:a.1=b.1
   . rw [if_pos e1] at h1
     by_cases e2:b.1=c.1
     . rw [if_pos e2] at h2
       rw [if_pos (e1.trans e2)]
       by_cases f1:a.2=b.2
       . rw [if_pos f1] at h1; cases h1
       . rw [if_neg f1] at h1
         by_cases f2:b.2=c.2
         . rw [if_pos f2] at h2; cases h2
         . rw [if_neg f2] at h2
           have h3:=T _ _ _ h1 h2
           rw [if_neg (fun z=>by rw [z,R] at h3; cases h3)]
           exact h3
     . rw [if_neg e2] at h2
       rw [if_neg (fun z=>e2 (e1.symm.trans z)),e1]
       exact h2
   . rw [if_neg e1] at h1
     by_cases e2:b.1=c.1
     . rw [if_neg (fun z=>e1 (z.trans e2.symm)),<- e2]
       exact h1
     . rw [if_neg e2] at h2
       have h3:=T _ _ _ h1 h2
       rw [if_neg (fun z=>by rw [z,R] at h3; cases h3)]
       exact h3
 tot:=fun a b h=>by
   unfold Od
   by_cases e:a.1=b.1
   . have f:a.2≠b.2:=fun z=>h (Prod.ext e z)
     rw [if_pos e,if_neg f,if_pos e.symm,if_neg (Ne.symm f)]
     exact iu.tot _ _ f
   . rw [if_neg e,if_neg (Ne.symm e)]
     exact iu.tot _ _ e
def u5 (h:Heap) (a:Addr) (v:Value) (k:Str × Str):Prop:=∃ b o m t u,v=.ref b/\b≠a/\h.get? b=some o/\o.cls=.type "tuple"/\o.data=.seq #[.str k.1 t,.str k.2 u] m
inductive gD (h:Heap) (a:Addr):List Value->List (Str × Str)->Prop
 | nil:gD h a [] []
 | cons {v:Value} {vs:List Value} {k:Str × Str} {ks:List (Str × Str)}:u5 h a v k->gD h a vs ks->gD h a (v :: vs) (k :: ks)
theorem gD.len {h:Heap} {a:Addr} {vs:List Value} {ks:List (Str × Str)} (p:gD h a vs ks):vs.length=ks.length:=by
 induction p with
 | nil=>rfl
 | cons _ _ ih=>rw [List.length_cons,List.length_cons,ih]
theorem gD.get {h:Heap} {a:Addr} {vs:List Value} {ks:List (Str × Str)} (p:gD h a vs ks):∀ i,i<ks.length->u5 h a (vs.getD i Value.none) (ks.getD i (default,default)):=by
 induction p with
 | nil=>intro i hi; cases hi
 | cons q _ ih =>
   intro i hi
   cases i with
   | zero=>exact q
   | succ i=>exact ih i (Nat.lt_of_succ_lt_succ hi)
theorem gD.keep {h h':Heap} {a:Addr} {vs:List Value} {ks:List (Str × Str)} (p:gD h a vs ks) (k:∀ b o,b≠a->h.get? b=some o->h'.get? b=some o):gD h' a vs ks:=by
 induction p with
 | nil=>exact .nil
 | cons q _ ih =>
   obtain ⟨b,o,m,t,u,e,n,g,r⟩:=q
   exact .cons ⟨b,o,m,t,u,e,n,k b o n g,r⟩ ih
section
variable {prog:Program} {w:World} {A:Around} {E:Value->Shared->Prop} {s:Shared}
theorem Te {a:Addr} {v v':Value} {k k':Str × Str} {Q:Bool->Shared->Prop} (p:u5 s.heap a v k) (p':u5 s.heap a v' k') (q:Q (Od k k') s):wpAny (model prog w) A (keyLt' (tuples' true) v v') Q E s:=by
 obtain ⟨b,o,m,t,u,rfl,_,g,c,d⟩:=p
 obtain ⟨b',o',m',t',u',rfl,_,g',c',d'⟩:=p'
 refine kat_lt g d g' d' ?_
 show KatLex prog w A true (decide (2<2)) Q [(.str k.1 t,.str k'.1 t'),(.str k.2 u,.str k'.2 u')] 0 s
 unfold Od at q
 refine kat_cons ((bW prog w).eqBool (jy _ _ _ _) (jy _ _ _ _) ?_)
 by_cases e:k.1=k'.1
 . rw [if_pos e] at q
   rw [show decide ((Sum.inr k.1:Key)=Sum.inr k'.1)=true from decide_eq_true (by rw [e])]
   refine kat_yes (kat_cons ((bW prog w).eqBool (jy _ _ _ _) (jy _ _ _ _) ?_))
   by_cases f:k.2=k'.2
   . rw [if_pos f] at q
     rw [show decide ((Sum.inr k.2:Key)=Sum.inr k'.2)=true from decide_eq_true (by rw [f])]
     exact kat_yes (kat_nil q)
   . rw [if_neg f] at q
     rw [show decide ((Sum.inr k.2:Key)=Sum.inr k'.2)=false from decide_eq_false (fun z=>f (Sum.inr.inj z))]
     refine kat_no ?_
     show wpAny _ A (oneLt' false _ _) Q _ s
     exact kat_one _ _ (PySem.P.lt_str q)
 . rw [if_neg e] at q
   rw [show decide ((Sum.inr k.1:Key)=Sum.inr k'.1)=false from decide_eq_false (fun z=>e (Sum.inr.inj z))]
   refine kat_no ?_
   show wpAny _ A (oneLt' true _ _) Q _ s
   exact oneLt_str q
theorem Kf {h:Heap} {a:Addr} {vs:List Value} {ks:List (Str × Str)} (p:gD h a vs ks):∃ fs,KatTups h vs fs/\fs.length=ks.length/\∀ v∈fs,∃ x t,v=Value.str x t:=by
 induction p with
 | nil=>exact ⟨[],.nil,rfl,fun v h=>by cases h⟩
 | cons q _ ih =>
   obtain ⟨fs,h1,h2,h3⟩:=ih
   obtain ⟨b,o,m,t,u,rfl,_,g,c,d⟩:=q
   refine ⟨.str _ t :: fs,.cons g c d (by rfl) h1,by rw [List.length_cons,List.length_cons,h2],fun v hv=>?_⟩
   rcases List.mem_cons.mp hv with e | e
   . exact ⟨_,_,e⟩
   . exact h3 v e
theorem Kg {a:Addr} {vs:List Value} {ks:List (Str × Str)} {n:Nat} {P:Fin->Shared->Prop} (ho:s.heap.get? a=some (seqObj "list" vs.toArray n)) (hp:gD s.heap a vs ks) (hn:ks.Nodup) (h6:ks.length<=6)
   (h:∀ (l:List Nat),(∀ i∈l,i<ks.length)->(l.map fun i=>ks.getD i (default,default)).Perm ks->(l.map fun i=>ks.getD i (default,default)).Pairwise (fun x y=>Od x y=true)->P (.done (.ret .none)) { s with heap:=sortedHeap s.heap a vs (l.map fun i=>vs.getD i Value.none).toArray }) :
   wpAny (model prog w) A (Builtin.«list.sort» ⟨[.ref a],[]⟩) P E s:=by
 have mJ:sizeLine=16777216:=sizeLine_eq
 have len:=hp.len
 rw [list_sort_plain]
 have la:a<s.heap.objs.size:=Heap.lt_size ho
 refine wpAny_bind (listItems_at ho rfl (wpAny_bind (listUpdate_at ho rfl ?_ (by rw [List.size_toArray]; omega) (Nat.zero_le _))))
 obtain ⟨e1,g1⟩:∃ e1,(s.heap.update a (Obj.mapSeq fun _=>#[])).get? a=some (seqObj "list" #[] e1):=⟨_,get?_update_seq ho (fun _=>#[])⟩
 refine wpAny_bind (seqEpoch_at g1 rfl (wpAny_bind (wpAny_newTuple ?_ (by simp; omega))))
 refine wpAny_bind (wpAny_newList ?_ (Nat.zero_le _))
 refine wpAny_holding ?_
 have g6:(((s.heap.update a (Obj.mapSeq fun _=>#[])).push (seqObj "tuple" vs.toArray 0)).push (seqObj "list" #[] 0)).get? a=some (seqObj "list" #[] e1):=Heap.get?_push_of_some _ (Heap.get?_push_of_some _ g1)
 have kk:∀ b o,b≠a->s.heap.get? b=some o->(((s.heap.update a (Obj.mapSeq fun _=>#[])).push (seqObj "tuple" vs.toArray 0)).push (seqObj "list" #[] 0)).get? b=some o:=fun b o nb e =>
   Heap.get?_push_of_some _ (Heap.get?_push_of_some _ (((Heap.SameBut.update s.heap a _).2 b nb).trans e))
 show wpAny (model prog w) A _ P E { s with heap:=((s.heap.update a (Obj.mapSeq fun _=>#[])).push (seqObj "tuple" vs.toArray 0)).push (seqObj "list" #[] 0) }
 dsimp only
 have sz:vs.toArray.size=vs.length:=by simp
 by_cases c2:vs.toArray.size<2
 . rw [if_pos c2,if_pos c2]
   refine wpAny_bind (wpAny_pure ?_)
   rw [StateT.run_pure]
   refine wpAny_bind (wpAny_pure ?_)
   dsimp only
   refine wpAny_bind (seqEpoch_at g6 rfl ?_)
   have em:((vs.toArray.zip vs.toArray).map (·.2))=vs.toArray:=by
     apply Array.toList_inj.mp
     rw [Array.toList_map,Array.toList_zip]
     exact List.map_snd_zip (Nat.le_refl _)
   refine wpAny_bind (listUpdate_at g6 rfl ?_ (Nat.zero_le _) (by show ((vs.toArray.zip vs.toArray).map (·.2)).size<=_; rw [em,sz]; omega))
   simp only [bne_self_eq_false,Bool.false_eq_true,if_false]
   refine wpAny_pure ?_
   show P _ { s with heap:=sortedHeap s.heap a vs ((vs.toArray.zip vs.toArray).map (·.2)) }
   rw [em]
   have all:∀ {α:Type} (xs:List α) (d:α),((List.range xs.length).map fun i=>xs.getD i d)=xs:=fun xs d=>by
     apply List.ext_getElem
     . simp
     . intro i h1 h2
       simp [List.getD,h2]
   have fin:=h (List.range ks.length) (fun i hi=>List.mem_range.mp hi) (by rw [all]) (by
     rw [all]
     match ks,len with
     | [],_=>exact List.Pairwise.nil
     | [_],_=>exact List.pairwise_singleton _ _
     | _ :: _ :: _,len=>rw [sz,len,List.length_cons,List.length_cons] at c2; omega)
   rw [<- len,all] at fin
   exact fin
 . rw [if_neg c2,if_neg c2]
   have p6:=hp.keep kk
   obtain ⟨fs,t1,t2,t3⟩:=Kf p6
   obtain ⟨p,r1,r2,r3,r4⟩:=Oc EY hn (by omega) h6 (default,default)
   refine wpAny_bind (kat_kind (T:=.type "str") t1 (by omega) (fun v hv=>?_) rfl ?_)
   . obtain ⟨x,t,rfl⟩:=t3 v hv
     exact .now
   . refine wpAny_bind (wpAny_mono (kat_run (ks:=vs) (vs:=vs) (κ:=tuples' true) (Q:=fun st' s'=>s'={ s with heap:=((s.heap.update a (Obj.mapSeq fun _=>#[])).push (seqObj "tuple" vs.toArray 0)).push (seqObj "list" #[] 0) }/\arrOf st'=p.map (kas_item (vs.toArray.zip vs.toArray))/\failedOf st'=none/\p.size=vs.length)
       (G:=fun p' s'=>p'=p/\s'={ s with heap:=((s.heap.update a (Obj.mapSeq fun _=>#[])).push (seqObj "tuple" vs.toArray 0)).push (seqObj "list" #[] 0) }) rfl (by omega) (by omega) (fun p' st' s' q1 q2 q3 ⟨q4,q5⟩=>by subst q4; exact ⟨q5,q2,q3,q1⟩)
       (Bw (n:=ks.length) (lt:=fun i j=>Od (ks.getD i (default,default)) (ks.getD j (default,default))) (fun i j C hi hj hC=>Te (p6.get i hi) (p6.get j hj) hC) _ p _ (by rw [len]; exact r1) ⟨rfl,rfl⟩)) ?_ fun _ _ e=>e)
     rintro ⟨⟨⟩,st'⟩ s' ⟨rfl,har,hf,hsz⟩
     dsimp only
     have em:=kat_snds (vs:=vs) rfl har
     refine wpAny_bind (seqEpoch_at g6 rfl ?_)
     have psz:p.toList.length=vs.length:=by rw [Array.length_toList]; exact hsz
     refine wpAny_bind (listUpdate_at g6 rfl ?_ (Nat.zero_le _) (by rw [em,List.size_toArray,List.length_map,psz]; omega))
     rw [hf]
     simp only [bne_self_eq_false,Bool.false_eq_true,if_false]
     refine wpAny_pure ?_
     show P _ { s with heap:=sortedHeap s.heap a vs ((arrOf st').map (·.2)) }
     rw [em]
     exact h p.toList r4 r2 r3
theorem Fb {x:Value} {ks:List (Str × Str)} {T:List Value->Prop} {Q:Value->Shared->Prop} (hn:ks.Nodup) (h6:ks.length<=6)
   (col:∀ (R:List Value->Shared->Prop),(∀ (h':Heap) (tk:Nat) (vs:List Value),(∀ b o,s.heap.get? b=some o->h'.get? b=some o)->gD h' h'.objs.size vs ks->T vs->R vs { s with heap:=h',toks:=tk })->wpAny (model prog w) A.in1 (collect x) R E s)
   (h:∀ (h1 h':Heap) (tk:Nat) (vs:List Value) (l:List Nat) (n:Nat),(∀ b o,s.heap.get? b=some o->h1.get? b=some o)->(∀ b o,h1.get? b=some o->h'.get? b=some o)->T vs->vs.length=ks.length->h'.get? h1.objs.size=some (seqObj "list" (l.map fun i=>vs.getD i Value.none).toArray n) ->
     (∀ i∈l,i<ks.length)->(l.map fun i=>ks.getD i (default,default)).Perm ks->(l.map fun i=>ks.getD i (default,default)).Pairwise (fun x y=>Od x y=true)->Q (.ref h1.objs.size) { s with heap:=h',toks:=tk }) :
   wpAny (model prog w) A (call (.builtin "sorted") [x]) Q E s:=by
 refine (Calls.call_function_entry kind_sorted plain_sorted entry_sorted (args_sorted1 _) ?_)
 unfold Builtin.«sorted»
 refine (wpAny_bind (m:=checkCount "sorted" 1 1 _) (wpAny_pure ?_))
 refine wpAny_bind (col _ fun h' tk vs kk hS hT=>?_)
 have hl:=hS.len
 have mJ:sizeLine=16777216:=sizeLine_eq
 refine wpAny_bind (wpAny_newList ?_ (by omega))
 have g0:(h'.push (seqObj "list" vs.toArray 0)).get? h'.objs.size=some (seqObj "list" vs.toArray 0):=Heap.get?_push_size _ rfl
 refine wpAny_bind (wpAny_holding (wpAny_call_entry slot_list_sort (s:={ s with heap:=h'.push (seqObj "list" vs.toArray 0),toks:=tk }) ⟨_,g0,rfl⟩ entry_list_sort
   (Kg (s:={ s with heap:=h'.push (seqObj "list" vs.toArray 0),toks:=tk }) g0 (hS.keep fun b o _ e=>Heap.get?_push_of_some _ e) hn h6 fun l l1 l2 l3=>⟨_,rfl,?_⟩) (args_list_sort _)))
 obtain ⟨n,gn⟩:=sortedHeap_at (vs:=vs) (out:=(l.map fun i=>vs.getD i Value.none).toArray) g0
 refine wpAny_pure ⟨_,rfl,h h' _ tk vs l n kk (fun b o e1=>?_) hT hl gn l1 l2 l3⟩
 have lt:b<h'.objs.size:=Heap.lt_size e1
 show (sortedHeap (h'.push (seqObj "list" vs.toArray 0)) h'.objs.size vs _).get? b=some o
 rw [sortedHeap_old (Nat.ne_of_lt lt) (by rw [Heap.size_push]; exact Nat.lt_succ_of_lt lt)]
 exact Heap.get?_push_of_some _ e1
end
def kP (k:Str × Str):List Key:=[Sum.inr k.1,Sum.inr k.2]
theorem Ye {a b:Str × Str} (h:kP a=kP b):a=b:=by
 unfold kP at h
 injection h with h1 h2
 injection h2 with h2 _
 exact Prod.ext (Sum.inr.inj h1) (Sum.inr.inj h2)
section
variable {X:Cx}
theorem u6 {α β:Type} {F:α->β->Prop}:∀ {l₁:List α} {l₂:List β},Paired F l₁ l₂->∀ {i:Nat} {b:β},l₂[i]?=some b->∃ a,l₁[i]?=some a/\F a b
 | _,_,.nil,i,b,e=>by simp at e
 | _,_,.cons h r,i,b,e=>by
   cases i with
   | zero=>cases (show some _=some b from e); exact ⟨_,rfl,h⟩
   | succ i=>exact u6 r (by simpa using e)
theorem tG {H:Hp}:∀ {kvs:List (List Key × V)} {xs:List (List Key × Addr × Value)},Paired (fun (p:List Key × V) (q:List Key × Addr × Value)=>p.1=q.1/\H q.2.1=some (.tup (p.1.map kV))/\RelV p.2 q.2.2) kvs xs->kvs.map (·.1)=xs.map (·.1)
 | _,_,.nil=>rfl
 | _,_,.cons h r=>by rw [List.map_cons,List.map_cons,h.1,tG r]
theorem BK {h:Heap} {a:Addr}:∀ {vs:List Value} {ks:List (Str × Str)},vs.length=ks.length->(∀ i,i<ks.length->u5 h a (vs.getD i Value.none) (ks.getD i (default,default)))->gD h a vs ks
 | [],[],_,_=>.nil
 | v :: vs,k :: ks,hl,f=>.cons (f 0 (Nat.succ_pos _)) (BK (by simpa using hl) fun i hi=>f (i+1) (Nat.succ_lt_succ hi))
 | [],_ :: _,hl,_=>by simp at hl
 | _ :: _,[],hl,_=>by simp at hl
theorem yV (hc:X.calm=true):gC X (.builtin "sorted") (fun xs H Q=>∃ (p:Addr) (kvs:List (List Key × V)) (ks:List (Str × Str)),xs=[.ref p]/\H p=some (.dT kvs)/\kvs.map (·.1)=ks.map kP/\ks.length<=6 /\
   ∀ (l:Addr) (as:List Addr) (ks':List (Str × Str)),H l=none->ks'.Perm ks->ks'.Pairwise (fun x y=>Od x y=true)->as.length=ks'.length->(∀ (i:Nat) (a:Addr) (k:Str × Str),as[i]?=some a->ks'[i]?=some k->H a=some (.tup ((kP k).map kV)))->Q (.ref l) (upd H l (.lst (as.map V.ref)))):=by
 intro pins s σ H xs us Q I r h
 obtain ⟨p,kvs,ks,rfl,hp,hk,h6,q⟩:=h
 obtain ⟨u,rfl,ru⟩:=vals1 r
 cases ru
 obtain ⟨z,d,xs,rel,o,es,ep,g1,g2,g3,g4,g5⟩:=(show dR X.prog X.w H s.heap p (.dT kvs) from I.hok p _ hp)
 have hkx:xs.map (·.1)=ks.map kP:=by
   rw [<- hk]
   exact (tG rel).symm
 have hn:ks.Nodup:=by
   rw [hkx] at g5
   rw [List.nodup_iff_pairwise_ne] at g5 ⊢
   rw [List.pairwise_map] at g5
   exact g5.imp fun {a b} h e=>h (by rw [e])
 have hxl:xs.length=ks.length:=by have:=congrArg List.length hkx; simpa using this
 have aeJ:es.size=ks.length:=by rw [<- Array.length_toList,g4,List.length_map,hxl]
 have mJ:sizeLine=16777216:=sizeLine_eq
 have fact:∀ i,i<ks.length->(es[i]?).map (·.key)=some (Value.ref (xs.map (·.2.1))[i]!)/\H (xs.map (·.2.1))[i]! = some (.tup ((kP (ks.getD i (default,default))).map kV)):=fun i hi=>by
   have ex:xs[i]?=some xs[i]:=List.getElem?_eq_getElem (by omega)
   obtain ⟨kv,ekv,e1,e2,_⟩:=u6 rel ex
   have ea:(xs.map (·.2.1))[i]! = xs[i].2.1:=by
     rw [List.getElem!_eq_getElem?_getD,List.getElem?_map,ex]; rfl
   rw [ea]
   refine ⟨?_,?_⟩
   . rw [<- Array.getElem?_toList,g4,List.getElem?_map,ex]; rfl
   . rw [e1] at e2
     have e3:(xs.map (·.1))[i]?=some xs[i].1:=by rw [List.getElem?_map,ex]; rfl
     rw [hkx,List.getElem?_map,List.getElem?_eq_getElem hi] at e3
     have e4:kP ks[i]=xs[i].1:=Option.some.inj e3
     have e5:ks.getD i (default,default)=ks[i]:=by simp [List.getD,hi]
     rw [e5,e4]; exact e2
 refine Fb (T:=fun vs=>∀ i,i<ks.length->vs.getD i Value.none=.ref (xs.map (·.2.1))[i]!) hn h6 (fun R hR=>PySem.W.kdu_collect (A:=X.A.in1) (Yc (es:=es) (ep:=ep) d) (by simpa using I.ok.hd hc) ⟨o,g1,g2,g3⟩ (by omega) fun h' tk acc kk hacc=>?_) fun h1 h' tk vs l n k1 k2 hT hvl ho l1 l2 l3=>?_
 . have al:acc.toList.length=ks.length:=by rw [Array.length_toList]; exact hacc.1.trans aeJ
   have at':∀ i,i<ks.length->acc.toList.getD i Value.none=.ref (xs.map (·.2.1))[i]!:=fun i hi=>by
     have e1:acc.toList[i]?=some acc.toList[i]:=List.getElem?_eq_getElem (by omega)
     obtain ⟨e,ee,ev⟩:=hacc.2 i acc.toList[i] (by rw [<- Array.getElem?_toList]; exact e1)
     have f:=(fact i hi).1
     rw [ee] at f
     have f':e.key=Value.ref (xs.map (·.2.1))[i]!:=Option.some.inj f
     simp only [List.getD,e1,Option.getD_some]
     rw [ev,f']
   refine hR h' tk acc.toList kk (BK al fun i hi=>?_) at'
   rw [at' i hi]
   obtain ⟨_,its,rv,ob,e1,e2,⟨m,e3⟩,_⟩:=(show dR X.prog X.w H s.heap _ (.tup ((kP (ks.getD i (default,default))).map kV)) from I.hok _ _ (fact i hi).2)
   have g:=kk _ _ e1
   obtain ⟨v1,v2,rfl,r1,r2⟩:=vals2 (show Vals [V.str _,V.str _] its from rv)
   obtain ⟨t1,rfl⟩:=r1
   obtain ⟨t2,rfl⟩:=r2
   exact ⟨_,ob,m,t1,t2,rfl,Nat.ne_of_lt (Heap.lt_size g),g,e2,e3⟩
 . have I1:Inv X pins σ H { s with heap:=h1,toks:=tk }:=I.kept k1
   have ll:l.length=ks.length:=by have:=l2.length_eq; simpa using this
   have eo:(l.map fun i=>vs.getD i Value.none)=(l.map fun i=>(xs.map (·.2.1))[i]!).map Value.ref:=by
     rw [List.map_map]
     exact List.map_congr_left fun i hi=>hT i (l1 i hi)
   refine ⟨.ref h1.objs.size,_,I1.laid (t':=tk) (o:=.lst ((l.map fun i=>(xs.map (·.2.1))[i]!).map V.ref)) k2 (Nat.le_refl _) ⟨by rw [List.length_map,List.length_map]; omega,(l.map fun i=>(xs.map (·.2.1))[i]!).map Value.ref,n,?_,by rw [<- eo]; exact ho⟩,rfl,
     q _ _ _ (I1.hok.fresh (Nat.le_refl _)) l2 l3 (by simp) fun j a k ea ek=>?_⟩
   . generalize (l.map fun i=>(xs.map (·.2.1))[i]!)=ys
     induction ys with
     | nil=>exact .nil
     | cons y ys ih=>exact .cons rfl ih
   . rw [List.getElem?_map] at ea ek
     cases ej:l[j]? with
     | none=>rw [ej] at ea; cases ea
     | some i =>
       rw [ej] at ea ek
       cases (show some _=some a from ea)
       cases (show some _=some k from ek)
       exact (fact i (l1 i (List.mem_of_getElem? ej))).2
end
end L2
namespace L2
open PySem PySem.Spec PyProof.Rows
section
open PySem.SeqAt
open PySem.AutoSeq1 (wpAny_loadPart')
open PySem.MeetsSeq PySem.MeetsSeq2 PySem.MeetsSeq3
end
end L2
namespace L2
open PySem PySem.Spec PyProof.Rows
def dX (H H':Hp):Prop:=∀ b xs,H b=some (.tup xs)->H' b=some (.tup xs)
theorem dX.refl (H:Hp):dX H H:=fun _ _ h=>h
theorem dX.trans {H H1 H2:Hp} (a:dX H H1) (b:dX H1 H2):dX H H2:=fun c o h=>b c o (a c o h)
theorem Same.tups {H H':Hp} (s:Same H H'):dX H H':=fun b _ e=>s b _ e
theorem dX.new {H H1:Hp} {p:Addr} {o:HO} (s:dX H H1) (h:H1 p=none):dX H (upd H1 p o):=fun b u e=>by rw [aL (aN (s b u e) h)]; exact s b u e
theorem dX.put {H H1:Hp} {p:Addr} {o u:HO} (s:dX H H1) (h:H1 p=some u) (nt:∀ xs,u≠.tup xs):dX H (upd H1 p o):=fun b xs e=>by
 have e1:=s b xs e
 have ne:b≠p:=fun z=>by subst z; rw [h] at e1; exact nt xs (Option.some.inj e1)
 rw [aL ne]; exact e1
theorem fB.more {H1 H H':Hp} {D:Addr} {ys:List V} (G:fB H1 H D ys) (s:Same H H'):fB H1 H' D ys:=⟨s _ _ G.at',G.same.trans s⟩
theorem aQ {α β:Type} {F:α->β->Prop}:∀ {l₁:List α} {l₂:List β},Paired F l₁ l₂->∀ {i:Nat} {a:α},l₁[i]?=some a->∃ b,l₂[i]?=some b/\F a b
 | _,_,.nil,i,b,e=>by simp at e
 | _,_,.cons h r,i,b,e=>by
   cases i with
   | zero=>cases (show some _=some b from e); exact ⟨_,rfl,h⟩
   | succ i=>exact aQ r (by simpa using e)
theorem aO {α β:Type} {F G:α->β->Prop} (f:∀ a b,F a b->G a b):∀ {l₁:List α} {l₂:List β},Paired F l₁ l₂->Paired G l₁ l₂
 | _,_,.nil=>.nil
 | _,_,.cons h r=>.cons (f _ _ h) (aO f r)
theorem fJ {α β:Type} {F:α->β->Prop}:∀ {l₁ m₁:List α} {l₂ m₂:List β},Paired F l₁ l₂->Paired F m₁ m₂->Paired F (l₁++m₁) (l₂++m₂)
 | _,_,_,_,.nil,q=>q
 | _,_,_,_,.cons h r,q=>.cons h (fJ r q)
theorem u9 {α β:Type} {F:α->β->Prop}:∀ {l₁:List α} {l₂:List β},Paired F l₁ l₂->Paired F l₁.reverse l₂.reverse
 | _,_,.nil=>.nil
 | _,_,.cons h r=>by rw [List.reverse_cons,List.reverse_cons]; exact fJ (u9 r) (.cons h .nil)
section
variable {g:BI->TG} {te:BI->TE} {σ0:St} {D:Addr} {End:Hp->Prop} {H1:Hp}
theorem comp_map {K:PySem.W.Frag} {a:Addr} {xs:List V} {ys:List V} (hD:H1 D=none) (hT:bM K H1 a xs) (hz:xs.length<=sizeLine) (hl:ys.length=xs.length)
   (turn:∀ (i:Nat) (x:V) (H':Hp),xs[i]?=some x->Same H1 H'->∀ b (R:VK),(∀ jT y,ys[i]?=some y->Same H' jT->R y jT)->g b x σ0 H' fun σ2 H2=>te b σ2 H2 R)
   (fin:∀ H',Same H1 H'->H' D=some (.lst ys)->End H') :
   ∃ W:Nat->Nat->Hp->Prop,(∃ m,W 0 m (upd H1 D (.lst [])))/\∀ b,nY (RP K a) (g b) (En) (nZ D (te b)) σ0 End W :=
 Bq (xs:=xs) (fun i H'=>fB H1 H' D (ys.take i)) (fB.start hD) (fun i H' _ G=>G.same.tup hT) (fun H' G=>fin H' G.same (by have e:=G.at'; rw [<- hl,List.take_length] at e; exact e)) (fun i x H' hx hi G b =>
   turn i x H' hx G.same b _ fun jT y hy s=>⟨_,(G.more s).at',by rw [List.length_take]; omega,nx hi (by
     show fB H1 _ D (ys.take (i+1))
     rw [List.take_add_one,hy]
     exact (G.more s).put hD _)⟩)
end
def NxS (n i:Nat) (Pv:Nat->St->Hp->Prop) (σ:St) (H:Hp):Prop:=∃ m',m'<n-i/\(m'=n-(i+1)/\i+1<=n/\Pv (i+1) σ H)
theorem nxs {n i:Nat} {Pv:Nat->St->Hp->Prop} {σ:St} {H:Hp} (hi:i<n) (h:Pv (i+1) σ H):NxS n i Pv σ H:=⟨n-(i+1),by omega,rfl,hi,h⟩
def WS (n:Nat) (Pv:Nat->St->Hp->Prop):Nat->Nat->St->Hp->Prop:=fun i m σ H=>m=n-i/\i<=n/\Pv i σ H
section
variable {g:TG} {act:um} {End:St->Hp->Prop}
theorem V3 {J:It} (n:Nat) (Pv:Nat->St->Hp->Prop) (stop:∀ σ H,Pv n σ H->J.stop n H/\End σ H)
   (turn:∀ i σ H,i<n->Pv i σ H->J.go i H/\∀ x H',J.MP i H x H'->g x σ H' fun σ2 H2=>act σ2 H2 (NxS n i Pv)):CT J g En act End (WS n Pv):=by
 intro i m σ H ⟨hm,hi,p⟩
 subst hm
 by_cases hlt:i<n
 . exact .inr ⟨(turn i σ H hlt p).1,fun x H' y=>(turn i σ H hlt p).2 x H' y⟩
 . have e:i=n:=by omega
   subst e
   exact .inl (stop σ H p)
theorem yW {K:PySem.W.Frag} {a:Addr} {xs:List V} (Pv:Nat->St->Hp->Prop) (hl:∀ i σ H,i<=xs.length->Pv i σ H->bM K H a xs) (stop:∀ σ H,Pv xs.length σ H->End σ H)
   (turn:∀ i x σ H,xs[i]?=some x->i<xs.length->Pv i σ H->g x σ H fun σ2 H2=>act σ2 H2 (NxS xs.length i Pv)):CT (RP K a) g En act End (WS xs.length Pv) :=
 V3 xs.length Pv (fun σ H p=>⟨⟨xs,hl _ σ H (Nat.le_refl _) p,Nat.le_refl _⟩,stop σ H p⟩) fun i σ H hi p =>
   ⟨⟨xs,xs[i],hl i σ H (Nat.le_of_lt hi) p,by simp [hi]⟩,fun x H' ⟨e,y⟩=>by subst e; exact turn i x σ _ (y xs (hl i σ _ (Nat.le_of_lt hi) p)) hi p⟩
theorem Tf {K:PySem.W.Frag} {a:Addr} {xs:List V} (Pv:Nat->St->Hp->Prop) (hl:∀ i σ H,i<=xs.length->Pv i σ H->dg K H a xs) (stop:∀ σ H,Pv xs.length σ H->End σ H)
   (turn:∀ i x σ H,xs[i]?=some x->i<xs.length->Pv i σ H->g x σ H fun σ2 H2=>act σ2 H2 (NxS xs.length i Pv)):CT (M4 K a) g En act End (WS xs.length Pv) :=
 V3 xs.length Pv (fun σ H p=>⟨⟨xs,hl _ σ H (Nat.le_refl _) p,Nat.le_refl _⟩,stop σ H p⟩) fun i σ H hi p =>
   ⟨⟨xs,xs[i],hl i σ H (Nat.le_of_lt hi) p,by simp [hi]⟩,fun x H' ⟨e,y⟩=>by subst e; exact turn i x σ _ (y xs (hl i σ _ (Nat.le_of_lt hi) p)) hi p⟩
theorem ws0 {n:Nat} {Pv:Nat->St->Hp->Prop} {σ:St} {H:Hp} (h:Pv 0 σ H):∃ m,WS n Pv 0 m σ H:=⟨n,rfl,Nat.zero_le _,h⟩
end
end L2
namespace HT
open PySem PySem.Spec PyProof.Rows
section
variable {prog:Program} {w:World} {A:Around} {E:Value->Shared->Prop} {s:Shared}
theorem Oe {t b:Addr} {ws:List Value} {Q:Value->Shared->Prop} (ht:IsTup s.heap t (#[]:Array Value)) (hb:IsTup s.heap b ws.toArray)
   (h1:Q (.ref b) s):wpAny (model prog w) A (binaryOp .Add (.ref t) (.ref b)) Q E s:=by
 obtain ⟨⟨cls,dd,data,sl⟩,ho,hc,n,hd⟩:=id ht
 obtain ⟨⟨cls2,dd2,data2,sl2⟩,ho2,hc2,n2,hd2⟩:=id hb
 simp only at hc hd hc2 hd2
 subst hc hd hc2 hd2
 exact concat_meets ⟨_,ho,rfl⟩ ⟨_,ho2,rfl⟩ noFill_tuple_add seq_tuple_add PySem.F.slot_tuple_add PySem.F.entry_tuple_add (PySem.F.args_tuple_add_2 _ _)
     (tuple_addW0 t b #[] ws.toArray n n2 dd dd2 sl sl2 (by simp)) ⟨ho,ho2,h1⟩
theorem pO {t sl:Addr} {items:Array Value} {vl vu:Value} {lo hi:Option Int} {Q:Value->Shared->Prop} (ht:IsTup s.heap t items) (hs:s.heap.IsSliceOf sl vl vu .none) (pl:IsPart vl lo) (pu:IsPart vu hi)
   (hw:fX items.size 0 lo=0/\fX items.size items.size hi=items.size)
   (h:Q (.ref t) s):wpAny (model prog w) A (getItem (.ref t) (.ref sl)) Q E s:=by
 obtain ⟨os,hos,hcs,hds⟩:=id hs
 have hTs:s.TypeIs (.ref sl) "slice":=⟨os,hos,hcs⟩
 unfold getItem
 try with_reducible refine wpAny_holding ?_
 first | refine wpAny_bind (wpAny_pure ?_) | skip
 refine wpAny_bind (wpAny_sequenceKey ht.typeIs (by decide) ?_)
 refine wpAny_bind (wpAny_callSpecial?_slot (name:=Str.ofString "__getitem__") ht.typeIs PyProof.Rows.slot_tuple_getitem
   (wpAny_call_entry PyProof.Rows.slot_tuple_getitem ht.typeIs entry_tuple_getitem ?_ (args_tuple_getitem _ _)))
 show wpAny _ _ (Builtin.Tuple.tupleItemsOf (.ref t) >>= _) _ _ s
 refine wpAny_bind (tupleItemsOf_ ht ?_)
 refine wpAny_bind (wpAny_typeOf hTs ?_)
 rw [if_pos (by decide)]
 refine wpAny_bind (lE hs pl pu ?_)
 have hyes:((((fX items.size 0 lo:Nat):Int) == 0 && (1:Int) == 1 && (fX items.size items.size hi-fX items.size 0 lo) == items.size)=true):=by
   rw [hw.1,hw.2]; simp
 show wpAny _ _ (if (((fX items.size 0 lo:Nat):Int) == 0 && (1:Int) == 1 && (fX items.size items.size hi-fX items.size 0 lo) == items.size)=true then _ else _) _ _ s
 rw [if_pos hyes]
 unfold Builtin.Tuple.tupleIsExact
 refine wpAny_bind ?_
 refine wpAny_bind (wpAny_typeOf ht.typeIs ?_)
 refine wpAny_pure ?_
 rw [if_pos (by decide)]
 refine wpAny_bind (wpAny_rule ?_)
 exact wpAny_pure ⟨_,rfl,wpAny_pure h⟩
end
end HT
namespace L2
open PySem PySem.Spec PyProof.Rows
section
variable {X:Cx}
structure Yg (x y:V) (H:Hp) (Q:VK):Prop where
 h:∃ a b xs ys,x=.ref a/\y=.ref b/\H a=some (.tup xs)/\H b=some (.tup ys)/\xs.length+ys.length<=sizeLine/\∀ p H',H' p=some (.tup (xs++ys))->Same H H'->Q (.ref p) H'
theorem ou:iD X (binaryOp .Add) Yg:=by
 intro pins s σ H x y v u Q I rx ry ⟨h⟩
 obtain ⟨a,b,xs,ys,rfl,rfl,ha,hb,hz,q⟩:=h
 by_cases hx:xs=[]
 . subst hx
   cases rx
   cases ry
   obtain ⟨its,r1,p1,_⟩:=I.tuple (bM.of ha)
   obtain ⟨its2,r2,p2,_⟩:=I.tuple (bM.of hb)
   have e:its=[]:=r1.j8.mpr rfl
   subst e
   exact HT.Oe p1 p2 ⟨.ref b,H,I,rfl,q b H hb (Same.refl H)⟩
 . refine R3 pins s σ H _ _ v u Q I rx ry ⟨a,b,xs,ys,rfl,rfl,bM.of ha,bM.of hb,hx,hz,fun e=>?_,fun _ p hp=>q p _ aq ((Same.refl H).upd hp)⟩
   subst e
   exact q a H (by rw [List.append_nil]; exact ha) (Same.refl H)
structure SlA (x:V) (lo hi:Option Int) (H:Hp) (Q:VK):Prop where
 h:∃ a xs,x=.ref a/\H a=some (.tup xs)/\∀ p H',H' p=some (.tup (nQ xs lo hi))->Same H H'->Q (.ref p) H'
theorem mK:Xk X SlA:=by
 intro pins s σ H x v vl vu lo hi sl Q I rx hs pl pu ⟨h⟩
 obtain ⟨a,xs,rfl,ha,q⟩:=h
 by_cases hw:HT.fX xs.length 0 lo=0/\HT.fX xs.length xs.length hi=xs.length
 . cases rx
   obtain ⟨its,r,ht,hz⟩:=I.tuple (bM.of ha)
   have hlen:its.toArray.size=xs.length:=by rw [List.size_toArray]; exact r.length.symm
   refine ⟨"tuple",_,PyProof.Rows.slot_tuple_getitem.lookup,ht.typeIs,?_⟩
   refine HT.pO ht hs pl pu (by rw [hlen]; exact hw) ⟨.ref a,H,I,rfl,q a H ?_ (Same.refl H)⟩
   rw [ha]
   unfold nQ
   rw [hw.1,hw.2,List.drop_zero,Nat.sub_zero,List.take_length]
 . exact Xl pins s σ H _ v vl vu lo hi sl Q I rx hs pl pu ⟨a,xs,rfl,bM.of ha,hw,fun p hp=>q p _ aq ((Same.refl H).upd hp)⟩
end
end L2
namespace HT
open PySem PySem.Spec PyProof.Rows
section
variable {prog:Program} {w:World} {A:Around} {E:Value->Shared->Prop} {s:Shared}
end
end HT
namespace L2
open PySem PySem.Spec PyProof.Rows
section
variable {X:Cx}
end
end L2
namespace HT
open PySem PySem.Spec PyProof.Rows
theorem yX (l b:Addr) (items:Array Value) (n n2:Nat) (dd dd2:Option Addr) (sl sl2:Array (Option Value)) :
   Meets (Builtin.«tuple.__ne__» ⟨[.ref l,.ref b],[]⟩) (fun _ R s=>s.heap.get? l=some { cls:=.type "tuple",dict:=dd,data:=.seq items n,slots:=sl }/\s.heap.get? b=some { cls:=.type "tuple",dict:=dd2,data:=.seq #[] n2,slots:=sl2 }/\R (.ok (.ret (Value.bool (!items.isEmpty)))) s) :=
 .of_wp fun prog w A R s h=>by
   obtain ⟨hp,g,d,tk,os⟩:=s; obtain ⟨hl,hb,h⟩:=h; have f2:=AutoSeq1.sub_tuple_tuple
   obtain ⟨items⟩:=items
   cases items with
   | nil =>
     wp_walk using wpAny_loadPart' hl,wpAny_loadPart' hb
     exact ⟨_,rfl,h⟩
   | cons x xs =>
     wp_walk using wpAny_loadPart' hl,wpAny_loadPart' hb
     exact ⟨_,rfl,h⟩
section
variable {prog:Program} {w:World} {A:Around} {E:Value->Shared->Prop} {s:Shared}
theorem Fd {t b:Addr} {items:Array Value} {Q:Value->Shared->Prop} (ht:IsTup s.heap t items) (hb:IsTup s.heap b (#[]:Array Value)) (hu:A.units<cLine)
   (h:Q (.bool (!items.isEmpty)) s):wpAny (model prog w) A (compareOp .NotEq (.ref t) (.ref b)) Q E s:=by
 obtain ⟨⟨cls,dd,data,sl⟩,ho,hc,n,hd⟩:=id ht
 obtain ⟨⟨cls2,dd2,data2,sl2⟩,ho2,hc2,n2,hd2⟩:=id hb
 simp only at hc hd hc2 hd2
 subst hc hd hc2 hd2
 exact richCompare_meets_room (op:=.NotEq) ⟨_,ho,rfl⟩ ⟨_,ho2,rfl⟩ PySem.F.slot_tuple_ne PySem.F.entry_tuple_ne (PySem.F.args_tuple_ne_2 _ _) (yX t b items n n2 dd dd2 sl sl2)
   ⟨ho,ho2,show Value.bool (!items.isEmpty)≠Value.notImplemented/\Q (.bool (!items.isEmpty)) s from ⟨(fun x=>nomatch x),h⟩⟩ hu
end
end HT
namespace L2
open PySem PySem.Spec PyProof.Rows
section
variable {X:Cx}
structure NeT (x y:V) (H:Hp) (Q:VK):Prop where
 h:∃ a b xs,x=.ref a/\y=.ref b/\H a=some (.tup xs)/\H b=some (.tup [])/\Q (.bl (!xs.isEmpty)) H
theorem abl (hu:X.A.units<cLine):iD X (compareOp .NotEq) NeT:=by
 intro pins s σ H x y v u Q I rx ry ⟨h⟩
 obtain ⟨a,b,xs,rfl,rfl,ha,hb,q⟩:=h
 cases rx
 cases ry
 obtain ⟨its,r1,p1,_⟩:=I.tuple (bM.of ha)
 obtain ⟨its2,r2,p2,_⟩:=I.tuple (bM.of hb)
 have e:its2=[]:=r2.j8.mpr rfl
 subst e
 refine HT.Fd p1 p2 hu ⟨.bl (!xs.isEmpty),H,I,?_,q⟩
 have e2:its.toArray.isEmpty=xs.isEmpty:=by
   have:=r1.j8
   cases xs <;> cases its <;> simp_all
 rw [e2]
 rfl
end
end L2
namespace L2
open PySem PySem.Spec PyProof.Rows
structure SE (X:Cx) (e:Expr) (t:TE):Prop where
 h:PE X e t
structure SA (X:Cx) (es:List Expr) (t:TA):Prop where
 h:PA X es t
structure SS (X:Cx) (s:Stmt) (t:TS):Prop where
 h:PS X s t
structure Tg (X:Cx) (s:List Stmt) (t:TS):Prop where
 h:Jy X s t
structure SI (X:Cx) (tg it:Expr) (t:TI):Prop where
 h:PI X tg it t
structure ST (X:Cx) (e:Expr) (t:TT):Prop where
 h:PT X e t
structure SW (X:Cx) (e:Expr) (t:TT):Prop where
 h:PW X e t
structure SG (X:Cx) (e:Expr) (t:TG):Prop where
 h:PG X e t
structure SGs (X:Cx) (e:List Expr) (t:Ry):Prop where
 h:PGs X e t
structure SO (X:Cx) (e:Option Expr) (t:TO):Prop where
 h:PO X e t
structure RO (X:Cx) (f:Value->Value->Sem Value) (r:R2):Prop where
 h:iD X f r
structure RU (X:Cx) (f:Value->Sem Value) (r:V->Hp->VK->Prop):Prop where
 h:UnR X f r
structure RC (X:Cx) (f:Value) (r:List V->Hp->VK->Prop):Prop where
 h:gC X f r
structure RX (X:Cx) (r:R2):Prop where
 h:VH X r
structure RL (X:Cx) (r:V->Option Int->Option Int->Hp->VK->Prop):Prop where
 h:Xk X r
structure RM (X:Cx) (id:String) (r:V->List V->Hp->VK->Prop):Prop where
 h:MtR X id r
section
variable {X:Cx} {e a b c o tg elt iter:Expr} {es rest':List Expr} {te ta tb to:TE} {t:TA} {pos p p2 pos' apos cpos spos:Pos} {st:Stmt} {rest:List Stmt} {ts u:TS} {tA Hq:TT} {lo hi:Option Expr} {tl th:TO} {x:Str} {id T:String} {name:Str}
 {scope g8:Scope} {own cap:List Str} {ix:List Nat} {wi:TI} {g:BI->TG} {tt:BI->TT} {tf:BI->TE} {ifs:List Expr} {i:Nat}
theorem bh:SA X [] iI:=⟨ak⟩
theorem aC (ha:SE X e te) (hr:SA X es t) (hs:starEach (e :: es) X.env=(false,eval e X.env) :: starEach es X.env:=by rfl):SA X (e :: es) (cj te t):=⟨aj ha.h hr.h hs⟩
theorem qV (i:Nat) (hN:X.N[i]?=some x:=by rfl) (hv:Vis X.env.scope x:=by first | exact Or.inl rfl | exact Or.inr (Or.inl rfl) | exact Or.inr (Or.inr rfl)) (hd:(x == ("__debug__" : Str))=false:=by decide)
   (hcd:(x == ("__classdict__" : Str))=false:=by decide):SE X (.Name x pos) (tV i):=⟨pV i hN hv hd hcd⟩
theorem cZ {x1} (h:SA X es t):SE X (.Tuple es x1 pos) (mF t):=⟨bI h.h⟩
theorem mL (h:SA X es t):SE X (.List es pos) (rK t):=⟨fQ h.h⟩
theorem cu {i j}:SE X (.Constant (.int i) j pos) (tC (.int i)):=⟨aD⟩
theorem rO {x j}:SE X (.Constant (.str x) j pos) (tC (.str x)):=⟨gZ⟩
theorem Og {b j}:SE X (.Constant (.bool b) j pos) (tC (.bl b)):=⟨iH⟩
theorem Fe {j}:SE X (.Constant .none j pos) (tC .non):=⟨kO⟩
theorem Oh:SE X (.Dict [] [] pos) Em:=⟨nU⟩
theorem iM {op:Operator} {r:R2} (ho:RO X (binaryOp op) r) (ha:SE X a ta) (hb:SE X b tb):SE X (.BinOp a op b pos) (wQ r ta tb):=⟨aY ho.h ha.h hb.h⟩
theorem abm {op:UnaryOp} {r:V->Hp->VK->Prop} (ho:RU X (unaryOp op) r) (ha:SE X a ta):SE X (.UnaryOp op a pos) (tUn r ta):=⟨wR ho.h ha.h⟩
theorem BL {r:R2} (hr:RX X r) (ha:SE X a ta) (hb:SE X b tb) (hs:HD b):SE X (.Subscript a b pos) (wQ r ta tb):=⟨cP hr.h ha.h hb.h hs⟩
theorem eY:SO X none oZ:=⟨mG⟩
theorem BP (h:SE X e te):SO X (some e) (yQ te):=⟨J7 h.h⟩
theorem dN {r:V->Option Int->Option Int->Hp->VK->Prop} (hr:RL X r) (he:SE X e te) (hl:SO X lo tl) (hu:SO X hi th):SE X (.Subscript e (.Slice lo hi none p2) pos) (Z6 r te tl th):=⟨gR hr.h he.h hl.h hu.h⟩
theorem Yh {k:Nat} {p1 p2 p3:Pos} (he:SE X e te):SE X (.Subscript e (.Slice none none (some (.UnaryOp .USub (.Constant (.int 1) k p1) p2)) p3) pos) (X6 X.K te):=⟨Oa he.h⟩
theorem uD {CX:JL} {k:Nat} {f:Addr} {fd:FuncData} {ps:List Str} {sp:Sp} {ds:List Value} {M9:List V} {E:XK} (F:aX X.prog X.w X.K X.mg X.base CX k f fd ps sp) (hr:kZ k X.A) (hg:Gl X x) (hm:X.mg x=some (.ref f)) (hk:PySem.W.keepIn X.K (.ref f)=true) (hb:Binds X.K fd ps ds) (hd:Vals M9 ds) (hx:Passes CX X E)
   (ha:SA X (e :: es) t) (hdb:(x == ("__debug__" : Str))=false:=by decide) (he:starEach (e :: es) X.env=(false,eval e X.env) :: starEach es X.env:=by rfl) (hpl:(backTo pos (starEach es X.env)).any (·.1)=false:=by rfl) :
   SE X (.Call (.Name x p) (e :: es) [] pos) (VG sp M9 E t):=⟨aM F hr hg hm hk hb hd hx ha.h hdb he hpl⟩
theorem qN {r:List V->Hp->VK->Prop} (hc:RC X (.builtin id) r) (hg:Gl X x) (hm:X.mg x=none) (hv:bootBuiltins x=some (.builtin id)) (ha:SA X (e :: es) t) (hn:x≠"__name__":=by decide) (hdb:(x == ("__debug__" : Str))=false:=by decide)
   (he:starEach (e :: es) X.env=(false,eval e X.env) :: starEach es X.env:=by rfl) (hpl:(backTo pos (starEach es X.env)).any (·.1)=false:=by rfl):SE X (.Call (.Name x p) (e :: es) [] pos) (RZ r t):=⟨aU hc.h hg hm hv ha.h hn hdb he hpl⟩
theorem rP {r:List V->Hp->VK->Prop} (hc:RC X (.type T) r) (hg:Gl X x) (hm:X.mg x=none) (hv:bootBuiltins x=some (.type T)) (ha:SA X (e :: es) t) (hn:x≠"__name__":=by decide) (hdb:(x == ("__debug__" : Str))=false:=by decide)
   (he:starEach (e :: es) X.env=(false,eval e X.env) :: starEach es X.env:=by rfl) (hpl:(backTo pos (starEach es X.env)).any (·.1)=false:=by rfl):SE X (.Call (.Name x p) (e :: es) [] pos) (RZ r t):=⟨dB hc.h hg hm hv ha.h hn hdb he hpl⟩
theorem V4 {r:V->List V->Hp->VK->Prop} (pa:PlainAttrs T) (slot:Slot T name id) (hty:typeOf (.builtin id)=pure (.type "method_descriptor")) (hm:RM X id r) (ho:SE X o to) (ha:SA X (e :: es) t)
   (hbase:attributeBase o name X.env (eval o X.env)=eval o X.env:=by rfl)
   (hfew:((backTo cpos (starEach (e :: es) X.env)).all (fun x=>!x.1) && (backToKw cpos (keywordEach [] X.env)).all (fun x=>x.1.isSome)
     && decide ((e :: es).length+([]:List Keyword).length+(if ([]:List Keyword).isEmpty then 0 else 1)<30))=true:=by rfl)
   (hline:(apos.endLine == cpos.line)=true:=by rfl) (hs:starEach (e :: es) X.env=(false,eval e X.env) :: starEach es X.env:=by rfl) (hplain:(backTo cpos (starEach es X.env)).any (·.1)=false:=by rfl) :
   SE X (.Call (.Attribute o name apos) (e :: es) [] cpos) (JQ X.K T r to t):=⟨j9 pa slot hty hm.h ho.h ha.h hbase hfew hline hs hplain⟩
theorem Ig {l:Expr} {tl:TE} (hl:SE X l tl):SI X tg l (sX X.K tl):=⟨fO hl.h⟩
theorem Yi {l:Expr} {tl:TE} (hl:SE X l tl):SI X tg l (aaF X.K tl):=⟨cX hl.h⟩
theorem qtC {op:CmpOp} {r:R2} (ho:RO X (compareOp op) r) (ha:SE X a ta) (hb:SE X b tb) (hm:behindInMarks op b=false):ST X (.Compare a [op] [b] pos) (tF (wQ r ta tb)):=⟨sZ ho.h ha.h hb.h hm⟩
theorem Ih (ha:ST X a tA):SW X (.BoolOp .And [a] pos) tA:=⟨pw_and1 ha.h⟩
theorem Yj (ha:ST X a tA) (hb:SW X (.BoolOp .And (b :: rest') pos) Hq):SW X (.BoolOp .And (a :: b :: rest') pos) (Jz tA Hq):=⟨pw_and ha.h hb.h⟩
theorem V5 (ha:ST X a tA) (hb:SW X (.BoolOp .And (b :: rest') pos) Hq):ST X (.BoolOp .And (a :: b :: rest') pos) (Jz tA Hq):=⟨tu ha.h hb.h⟩
theorem iQ {i:Nat} (hN:X.N.Nodup) (hi:X.N[i]?=some x) (hx:Loc X.env.scope x) (hf:X.fn x=true∨X.env.scope.names.lookup x=some .local:=by first | exact .inl rfl | exact .inr rfl | assumption):SG X (.Name x pos) (jE i):=⟨aB hN hi hx hf⟩
theorem yZ:SGs X [] aaD:=⟨bR⟩
theorem iR {t:TG} {u:Ry} (h1:SG X e t) (h2:SGs X es u)
   (hs:(assignEach (e :: es) X.env).map (·.2)=assign e X.env :: (assignEach es X.env).map (·.2):=by rfl):SGs X (e :: es) (VF t u):=⟨aG h1.h h2.h hs⟩
theorem Fg {k:Nat} {t:Ry} {n:Nat} (hc:X.calm=true) (h:SGs X es t)
   (hn:(assignEach es X.env).length=n:=by rfl) (hst:(assignEach es X.env).findIdx? (·.1)=none:=by rfl):SG X (.Tuple es k pos) (aaE X.K n t):=⟨cT hc h.h hn hst⟩
theorem za:Tg X [] Hr:=⟨bO⟩
theorem eZ {t:TS} (h1:SS X st t) (h2:Tg X rest u):Tg X (st :: rest) (nA t u):=⟨au h1.h h2.h⟩
theorem kE {t:TS} (h1:SS X st t):Tg X [st] t:=⟨aH h1.h⟩
theorem mO {i:Nat} (hN:X.N.Nodup) (hi:X.N[i]?=some x) (hx:Loc X.env.scope x) (he:SE X e te) (hs:swapsWith e (some (.Name x pos')) pos.line X.env=pure false:=by rfl) (hf:X.fn x=true∨X.env.scope.names.lookup x=some .local:=by first | exact .inl rfl | exact .inr rfl | assumption) :
   SS X (.Assign [.Name x pos'] e pos) (nJ te (jE i)):=⟨aV hN hi hx he.h hs hf⟩
theorem Oi {g:TG} (he:SE X e te) (hg:SG X tg g) (hs:swapsWithSole [tg] e pos.line X.env=pure false:=by rfl) (hw:swappedStores [tg] e X.env=pure none:=by rfl)
   (h1:(assignEach [tg] X.env).map (·.2)=[assign tg X.env]:=by rfl):SS X (.Assign [tg] e pos) (nJ te g):=⟨kY he.h hg.h hs hw h1⟩
theorem Fi (he:SE X e te):SS X (.Return (some e) pos) (WX te):=⟨aZ he.h⟩
theorem Ii (he:SE X e te) (hs:swapsWith e none pos.line X.env=pure false:=by rfl):SS X (.Expr e pos) (lD te):=⟨gB he.h hs⟩
theorem Oj {bs cs:List Stmt} {tc:TT} {t u:TS} (hc:ST X c tc) (ha:Tg X bs t) (hb:Tg X cs u):SS X (.If c bs cs pos) (Ec tc t u):=⟨eV hc.h ha.h hb.h⟩
theorem Fj {body:List Stmt} {g:TG} {tb:TS} (hp:PassesOwn (model X.prog X.w) X.A X.env X.xe) (hc:X.calm=true) (hi:SI X tg iter wi) (hg:SG X tg g) (hb:Tg X body tb)
   (hs:∀ x,foldedSetIterable iter X.env x=pure x:=by intro _; rfl):SS X (.For tg iter body [] pos) (Bb wi g tb):=⟨cY hp hc hi.h hg.h hb.h hs⟩
end
end L2
namespace L2
open PySem PySem.Spec PyProof.Rows
section
variable {X:Cx}
theorem range_any (bs:List Bool):((List.range bs.length).any fun i=>(bs[i]?).getD false)=bs.any id:=by
 have key:∀ (l:List Bool) (k:Nat),((List.range l.length).any fun i=>(l[i]?).getD false)=l.any id:=fun l _=>by
   induction l with
   | nil=>rfl
   | cons b l ih =>
     rw [List.length_cons,List.range_succ_eq_map,List.any_cons,List.any_map,List.any_cons]
     congr 1
 exact key bs 0
theorem BR (hc:X.calm=true):gC X (.builtin "any") (fun xs H Q=>∃ (p:Addr) (bs:List Bool),xs=[.ref p]/\dg X.K H p (bs.map V.bl)/\Q (.bl (bs.any id)) H):=by
 intro pins s σ H xs us Q I r h
 obtain ⟨p,bs,rfl,hq,q⟩:=h
 obtain ⟨u,rfl,ru⟩:=vals1 r
 cases ru
 obtain ⟨its,rv,pl,_⟩:=I.list hq
 have hb:=Bo rv
 have hl:=pl.isList
 have hlt:p<s.heap.objs.size:=by obtain ⟨_,e,_⟩:=hl; exact Heap.lt_size e
 refine call_any_walk (wpAny_pyIter_list hl ?_)
 refine ⟨s.heap.objs.size,[s.heap.objs.size,p],[s.heap.objs.size],its.toArray.size,_,_,fun i=>(bs[i]?).getD false,rfl,Walks.list (A:=X.A.in1) (I.ok.hd hc) _ p (Nat.ne_of_lt hlt) its.toArray,
   ⟨⟨_,Heap.get?_push_size _ rfl,rfl,rfl⟩,hl.push _⟩,fun i v s' Q' E' hP hQ=>?_,fun h' tk hk=>?_⟩
 . obtain ⟨b,e,rfl⟩:=hb.get i v (by simpa using hP)
   simp only [e,Option.getD_some] at hQ
   exact wpAny_truthy_bool hQ
 . have e:((List.range its.toArray.size).any fun i=>(bs[i]?).getD false)=bs.any id:=by
     rw [List.size_toArray,hb.length]; exact range_any bs
   rw [e]
   exact ⟨.bl _,H,I.kept (LSm.kept_iter hk),rfl,q⟩
theorem ints_get:∀ {is:List Int} {us:List Value},Vals (is.map V.int) us->∀ (i:Nat) (v:Value),us[i]?=some v->∃ n t,is[i]?=some n/\v=.int n t:=by
 intro is us r i v e
 obtain ⟨x,hx,rx⟩:∃ x,(is.map V.int)[i]?=some x/\RelV x v:=by
   have l:=r.length
   have hi:i<(is.map V.int).length:=by
     rw [l]; exact (List.getElem?_eq_some_iff.mp e).1
   obtain ⟨u,hu,ru⟩:=r.get (List.getElem?_eq_getElem hi)
   rw [e] at hu; cases hu
   exact ⟨_,List.getElem?_eq_getElem hi,ru⟩
 rw [List.getElem?_map] at hx
 obtain ⟨n,hn,rfl⟩:=Option.map_eq_some_iff.mp hx
 obtain ⟨t,rfl⟩:=rx
 exact ⟨n,t,hn,rfl⟩
theorem Kh (hc:X.calm=true):gC X (.builtin "max") (fun xs H Q=>∃ (p:Addr) (is:List Int),xs=[.ref p]/\dg X.K H p (is.map V.int)/\is≠[]/\∀ m∈is,(∀ i∈is,i<=m)->Q (.int m) H):=by
 intro pins s σ H xs us Q I r h
 obtain ⟨p,is,rfl,hq,ne,q⟩:=h
 obtain ⟨u,rfl,ru⟩:=vals1 r
 cases ru
 obtain ⟨its,rv,pl,_⟩:=I.list hq
 have hl:=pl.isList
 have hlt:p<s.heap.objs.size:=by obtain ⟨_,e,_⟩:=hl; exact Heap.lt_size e
 have len:its.length=is.length:=by rw [<- rv.length,List.length_map]
 have pos:0<is.length:=by cases is with | nil=>exact absurd rfl ne | cons _ _=>exact Nat.succ_pos _
 refine call_max_walk (wpAny_pyIter_list hl ?_)
 refine ⟨s.heap.objs.size,[s.heap.objs.size,p],[s.heap.objs.size],its.toArray.size,_,_,fun i j=>decide ((is[i]?).getD 0 > (is[j]?).getD 0),rfl,Walks.list (A:=X.A.in1) (I.ok.hd hc) _ p (Nat.ne_of_lt hlt) its.toArray,
   ⟨⟨_,Heap.get?_push_size _ rfl,rfl,rfl⟩,hl.push _⟩,fun b hb=>?_,by rw [List.size_toArray,len]; exact pos,fun i j vi vj s' Q' E' hi hj hQ=>?_,fun v h' tk hv hk=>?_⟩
 . rw [Heap.size_push]
   simp only [List.mem_cons,List.not_mem_nil,or_false] at hb
   rcases hb with rfl | rfl
   . exact Nat.lt_succ_self _
   . exact Nat.lt_succ_of_lt hlt
 . obtain ⟨n1,t1,e1,rfl⟩:=ints_get rv i vi (by simpa using hi)
   obtain ⟨n2,t2,e2,rfl⟩:=ints_get rv j vj (by simpa using hj)
   simp only [e1,e2,Option.getD_some] at hQ
   exact gt_int hQ
 . obtain ⟨b1,b2⟩:=PySem.argBest_gt (fun i=>(is[i]?).getD 0) (its.toArray.size-1)
   obtain ⟨m,t,em,rfl⟩:=ints_get rv _ v (by simpa using hv)
   rw [List.size_toArray,len] at b2
   rw [len] at em
   refine ⟨.int m,H,I.kept (LSm.kept_iter hk),⟨t,rfl⟩,q m (List.mem_of_getElem? em) fun i hi=>?_⟩
   obtain ⟨j,ej⟩:=List.mem_iff_getElem?.mp hi
   have lj:=(List.getElem?_eq_some_iff.mp ej).1
   have z:=b2 j (by omega)
   simp only [em,ej,Option.getD_some] at z
   exact z
theorem Kl (hc:X.calm=true):gC X (.builtin "min") (fun xs H Q=>∃ (p:Addr) (is:List Int),xs=[.ref p]/\dg X.K H p (is.map V.int)/\is≠[]/\∀ m∈is,(∀ i∈is,m<=i)->Q (.int m) H):=by
 intro pins s σ H xs us Q I r h
 obtain ⟨p,is,rfl,hq,ne,q⟩:=h
 obtain ⟨u,rfl,ru⟩:=vals1 r
 cases ru
 obtain ⟨its,rv,pl,_⟩:=I.list hq
 have hl:=pl.isList
 have hlt:p<s.heap.objs.size:=by obtain ⟨_,e,_⟩:=hl; exact Heap.lt_size e
 have len:its.length=is.length:=by rw [<- rv.length,List.length_map]
 have pos:0<is.length:=by cases is with | nil=>exact absurd rfl ne | cons _ _=>exact Nat.succ_pos _
 refine call_min_walk (wpAny_pyIter_list hl ?_)
 refine ⟨s.heap.objs.size,[s.heap.objs.size,p],[s.heap.objs.size],its.toArray.size,_,_,fun i j=>decide ((is[i]?).getD 0<(is[j]?).getD 0),rfl,Walks.list (A:=X.A.in1) (I.ok.hd hc) _ p (Nat.ne_of_lt hlt) its.toArray,
   ⟨⟨_,Heap.get?_push_size _ rfl,rfl,rfl⟩,hl.push _⟩,fun b hb=>?_,by rw [List.size_toArray,len]; exact pos,fun i j vi vj s' Q' E' hi hj hQ=>?_,fun v h' tk hv hk=>?_⟩
 . rw [Heap.size_push]
   simp only [List.mem_cons,List.not_mem_nil,or_false] at hb
   rcases hb with rfl | rfl
   . exact Nat.lt_succ_self _
   . exact Nat.lt_succ_of_lt hlt
 . obtain ⟨n1,t1,e1,rfl⟩:=ints_get rv i vi (by simpa using hi)
   obtain ⟨n2,t2,e2,rfl⟩:=ints_get rv j vj (by simpa using hj)
   simp only [e1,e2,Option.getD_some] at hQ
   exact lt_int hQ
 . obtain ⟨b1,b2⟩:=PySem.argBest_lt (fun i=>(is[i]?).getD 0) (its.toArray.size-1)
   obtain ⟨m,t,em,rfl⟩:=ints_get rv _ v (by simpa using hv)
   rw [List.size_toArray,len] at b2
   rw [len] at em
   refine ⟨.int m,H,I.kept (LSm.kept_iter hk),⟨t,rfl⟩,q m (List.mem_of_getElem? em) fun i hi=>?_⟩
   obtain ⟨j,ej⟩:=List.mem_iff_getElem?.mp hi
   have lj:=(List.getElem?_eq_some_iff.mp ej).1
   have z:=b2 j (by omega)
   simp only [em,ej,Option.getD_some] at z
   exact z
end
end L2
namespace L2
open PySem PySem.Spec PyProof.Rows
def qO (h:Heap) (z TI TO T:Addr):Prop:=∃ b:Bool,h.get? z=some { cls:=.type "zip",dict:=none,data:=.fields #[rawInt T,.bool b,.bool false,.ref TI,.ref TO],slots:=#[] }
section
variable {prog:Program} {w:World} {A:Around} {E:Value->Shared->Prop} {s:Shared} {z TI TO T i1 i2 l1 l2:Addr} {k1 k2:Nat} {xs ys:Array Value}
theorem Ol {α:Type} {M:Model} {a:Addr} {o:Obj} {Q:Option Obj->Shared->Prop} (h:s.heap.get? a=some o) (q:Q (some o) s):wpAny M A (loadIfAlive a) Q E s:=fun Γ p hΓ=>by
 show Sem.wp M Γ (.loadIfAlive a .pure) _ _ _ _
 rw [Sem.wp_loadIfAlive,h]
 exact q
theorem vd {Q:Bool->Shared->Prop} (hz:qO s.heap z TI TO T) (hT:∃ o,s.heap.get? T=some o) (hQ:∀ h',qO h' z TI TO T->Heap.SameBut z s.heap h'->Q false { s with heap:=h' }) :
   wpAny (model prog w) A (Builtin.SmallTypes.ownedTupleIsFree (.ref z)) Q E s:=by
 obtain ⟨b,hz⟩:=hz
 obtain ⟨oT,hT⟩:=hT
 unfold Builtin.SmallTypes.ownedTupleIsFree
 refine wpAny_bind (wpAny_field hz rfl (x:=rawInt T) rfl ?_)
 show wpAny _ _ (loadIfAlive (Int.toNat (T:Int)) >>= _) _ _ _
 refine wpAny_bind (Ol (α:=Unit) (by rw [Int.toNat_natCast]; exact hT) ?_)
 refine wpAny_bind (wpAny_field hz rfl (x:=.bool b) rfl ?_)
 cases b with
 | false =>
   show wpAny _ _ (if (Value.bool false != Value.bool true)=true then _ else _) _ _ _
   rw [if_pos (by decide)]
   exact wpAny_bind (wpAny_setField_rec hz (by simp) fun h1 hz1 hs1=>wpAny_pure (hQ h1 ⟨true,hz1⟩ hs1))
 | true =>
   show wpAny _ _ (if (Value.bool true != Value.bool true)=true then _ else _) _ _ _
   rw [if_neg (by decide)]
   exact wpAny_pure (hQ s.heap ⟨true,hz⟩ (Heap.SameBut.refl _ _))
theorem qO.ext {h h':Heap} (hz:qO h z TI TO T) (k:∀ o,h.get? z=some o->h'.get? z=some o):qO h' z TI TO T:=let ⟨b,e⟩:=hz; ⟨b,k _ e⟩
theorem Km {x y:Value} {Q:Value->Shared->Prop} (D:ZipApart z TI TO i1 i2 l1 l2) (hz:qO s.heap z TI TO T) (hT:∃ o,s.heap.get? T=some o) (hTI:IsPair s.heap TI (.ref i1) (.ref i2))
   (h1:s.heap.IsListIter i1 l1 k1) (h2:s.heap.IsListIter i2 l2 k2) (hl1:s.heap.IsList l1 xs) (hl2:s.heap.IsList l2 ys) (hx:xs[k1]?=some x) (hy:ys[k2]?=some y)
   (hQ:∀ h',qO h' z TI TO T->h'.IsListIter i1 l1 (k1+1)->h'.IsListIter i2 l2 (k2+1)->IsPair h' s.heap.objs.size x y->h'.objs.size=s.heap.objs.size+1 ->
     (∀ c o,c≠z->c≠i1->c≠i2->s.heap.get? c=some o->h'.get? c=some o)->Q (.ref s.heap.objs.size) { s with heap:=h' }) :
   wpAny (model prog w) A (Builtin.«zip.__next__» ⟨[.ref z],[]⟩) (fun fin s'=>∃ v,fin=.done (.ret v)/\Q v s') E s:=by
 obtain ⟨b,hz0⟩:=id hz
 show wpAny _ _ (field (.ref z) 2 >>= _) _ _ _
 refine wpAny_bind (wpAny_field hz0 rfl (x:=.bool false) rfl ?_)
 show wpAny _ _ (field (.ref z) 3 >>= _) _ _ _
 refine wpAny_bind (wpAny_field hz0 rfl (x:=.ref TI) rfl ?_)
 refine wpAny_bind (wpAny_seqItems hTI rfl ?_)
 show wpAny _ _ (Builtin.SmallTypes.ownedTupleIsFree (.ref z) >>= _) _ _ _
 refine wpAny_bind (vd hz hT fun h₁ hz₁ hs₁=>?_)
 simp only [Bool.false_eq_true,if_false]
 refine wpAny_bind ?_
 rw [<- Array.forIn_toList]
 simp only [List.forIn_cons,List.forIn_nil]
 refine wpAny_bind (wpAny_bind (wpAny_holding ?_))
 show wpAny _ _ (Builtin.SmallTypes.nextOf (.ref i1) >>= _) _ _ _
 refine wpAny_bind (wpAny_nextOf_list_item (h1.extBut hs₁.extBut D.i1z) (hl1.extBut hs₁.extBut D.l1z) hx fun h₂ g₂ hs₂=>wpAny_pure (wpAny_pure ?_))
 refine wpAny_bind (wpAny_bind (wpAny_holding ?_))
 show wpAny _ _ (Builtin.SmallTypes.nextOf (.ref i2) >>= _) _ _ _
 have b2:=(h2.extBut hs₁.extBut D.i2z).extBut hs₂.extBut D.i12.symm
 have b3:=(hl2.extBut hs₁.extBut D.l2z).extBut hs₂.extBut D.l2i1
 refine wpAny_bind (wpAny_nextOf_list_item b2 b3 hy fun h₃ g₃ hs₃=>wpAny_pure (wpAny_pure (wpAny_pure ?_)))
 refine wpAny_bind (wpAny_newTuple (hsz:=by show 2<=sizeLine; rw [sizeLine_eq]; decide) ?_)
 have hsz:h₃.objs.size=s.heap.objs.size:=by rw [hs₃.1,hs₂.1,hs₁.1]
 have kk:∀ c o,c≠z->c≠i1->c≠i2->s.heap.get? c=some o->h₃.get? c=some o:=fun c o c1 c2 c3 e=>hs₃.extBut _ _ c3 (hs₂.extBut _ _ c2 (hs₁.extBut _ _ c1 e))
 have z₃:qO h₃ z TI TO T:=hz₁.ext fun o e=>hs₃.extBut _ _ D.i2z.symm (hs₂.extBut _ _ D.i1z.symm e)
 refine wpAny_pure ⟨_,rfl,?_⟩
 show Q (.ref h₃.objs.size) _
 rw [hsz]
 have q₁:(h₃.push { cls:=.type "tuple",data:=.seq #[x,y] }).IsListIter i1 l1 (k1+1):=(g₂.extBut hs₃.extBut D.i12).at fun o e=>Heap.get?_push_of_some _ e
 refine hQ _ (z₃.ext fun o e=>Heap.get?_push_of_some _ e) q₁ (g₃.at fun o e=>Heap.get?_push_of_some _ e) (by rw [<- hsz]; exact Heap.get?_push_size _ rfl) (by rw [Heap.size_push,hsz]) fun c o c1 c2 c3 e=>Heap.get?_push_of_some _ (kk c o c1 c2 c3 e)
theorem Om {Q:Fin->Shared->Prop} (hh:A.handled=none) (D:ZipApart z TI TO i1 i2 l1 l2) (hz:qO s.heap z TI TO T) (hT:∃ o,s.heap.get? T=some o) (hTI:IsPair s.heap TI (.ref i1) (.ref i2))
   (h1:s.heap.IsListIter i1 l1 k1) (h2:s.heap.IsListIter i2 l2 k2) (hl1:s.heap.IsList l1 xs) (hl2:s.heap.IsList l2 ys) (hend:xs[k1]?=none∨ys[k2]?=none)
   (hE:∀ h' e,(∀ c o,c≠z->c≠i1->c≠i2->s.heap.get? c=some o->h'.get? c=some o)->(∃ o,h'.get? e=some o/\o.cls=.type "StopIteration")->E (.ref e) { s with heap:=h' }) :
   wpAny (model prog w) A (Builtin.«zip.__next__» ⟨[.ref z],[]⟩) Q E s:=by
 obtain ⟨b,hz0⟩:=id hz
 show wpAny _ _ (field (.ref z) 2 >>= _) _ _ _
 refine wpAny_bind (wpAny_field hz0 rfl (x:=.bool false) rfl ?_)
 show wpAny _ _ (field (.ref z) 3 >>= _) _ _ _
 refine wpAny_bind (wpAny_field hz0 rfl (x:=.ref TI) rfl ?_)
 refine wpAny_bind (wpAny_seqItems hTI rfl ?_)
 show wpAny _ _ (Builtin.SmallTypes.ownedTupleIsFree (.ref z) >>= _) _ _ _
 refine wpAny_bind (vd hz hT fun h₁ hz₁ hs₁=>?_)
 simp only [Bool.false_eq_true,if_false]
 refine wpAny_bind ?_
 rw [<- Array.forIn_toList]
 simp only [List.forIn_cons,List.forIn_nil]
 refine wpAny_bind (wpAny_bind (wpAny_holding ?_))
 show wpAny _ _ (Builtin.SmallTypes.nextOf (.ref i1) >>= _) _ _ _
 have a1:=h1.extBut hs₁.extBut D.i1z
 have a2:=hl1.extBut hs₁.extBut D.l1z
 cases hx:xs[k1]? with
 | none=>exact wpAny_bind (wpAny_nextOf_list_end hh a1 a2 hx fun h₂ e hs₂ he=>hE h₂ e (fun c o c1 c2 c3 q=>hs₂ _ _ c2 (hs₁.extBut _ _ c1 q)) he)
 | some x =>
   have hy:ys[k2]?=none:=hend.resolve_left fun q=>by rw [hx] at q; cases q
   refine wpAny_bind (wpAny_nextOf_list_item a1 a2 hx fun h₂ g₂ hs₂=>wpAny_pure (wpAny_pure ?_))
   refine wpAny_bind (wpAny_bind (wpAny_holding ?_))
   show wpAny _ _ (Builtin.SmallTypes.nextOf (.ref i2) >>= _) _ _ _
   have b2:=(h2.extBut hs₁.extBut D.i2z).extBut hs₂.extBut D.i12.symm
   have b3:=(hl2.extBut hs₁.extBut D.l2z).extBut hs₂.extBut D.l2i1
   exact wpAny_bind (wpAny_nextOf_list_end hh b2 b3 hy fun h₃ e hs₃ he=>hE h₃ e (fun c o c1 c2 c3 q=>hs₃ _ _ c3 (hs₂.extBut _ _ c2 (hs₁.extBut _ _ c1 q))) he)
theorem Ko {x y:Value} {Q:Option Value->Shared->Prop} (D:ZipApart z TI TO i1 i2 l1 l2) (hz:qO s.heap z TI TO T) (hT:∃ o,s.heap.get? T=some o) (hTI:IsPair s.heap TI (.ref i1) (.ref i2))
   (h1:s.heap.IsListIter i1 l1 k1) (h2:s.heap.IsListIter i2 l2 k2) (hl1:s.heap.IsList l1 xs) (hl2:s.heap.IsList l2 ys) (hx:xs[k1]?=some x) (hy:ys[k2]?=some y)
   (hQ:∀ h',qO h' z TI TO T->h'.IsListIter i1 l1 (k1+1)->h'.IsListIter i2 l2 (k2+1)->IsPair h' s.heap.objs.size x y->h'.objs.size=s.heap.objs.size+1 ->
     (∀ c o,c≠z->c≠i1->c≠i2->s.heap.get? c=some o->h'.get? c=some o)->Q (some (.ref s.heap.objs.size)) { s with heap:=h' }):wpAny (model prog w) A (pyNext (.ref z)) Q E s:=by
 have ty:s.TypeIs (.ref z) "zip":=by obtain ⟨b,e⟩:=hz; exact ⟨_,e,rfl⟩
 unfold pyNext
 exact wpAny_bind (wpAny_attempt (wpAny_callSpecial?_slot (name:=Str.ofString "__next__") ty F.slot_zip_next (wpAny_call_entry F.slot_zip_next ty F.entry_zip_next
     (Km D hz hT hTI h1 h2 hl1 hl2 hx hy fun h' b1 b2 b3 b4 b5 b6=>wpAny_pure (hQ h' b1 b2 b3 b4 b5 b6)) (F.args_zip_next_1 _))))
theorem Kq {Q:Option Value->Shared->Prop} (hh:A.handled=none) (D:ZipApart z TI TO i1 i2 l1 l2) (hz:qO s.heap z TI TO T) (hT:∃ o,s.heap.get? T=some o) (hTI:IsPair s.heap TI (.ref i1) (.ref i2))
   (h1:s.heap.IsListIter i1 l1 k1) (h2:s.heap.IsListIter i2 l2 k2) (hl1:s.heap.IsList l1 xs) (hl2:s.heap.IsList l2 ys) (hend:xs[k1]?=none∨ys[k2]?=none)
   (hQ:∀ h',(∀ c o,c≠z->c≠i1->c≠i2->s.heap.get? c=some o->h'.get? c=some o)->Q none { s with heap:=h' }):wpAny (model prog w) A (pyNext (.ref z)) Q E s:=by
 have ty:s.TypeIs (.ref z) "zip":=by obtain ⟨b,e⟩:=hz; exact ⟨_,e,rfl⟩
 unfold pyNext
 refine wpAny_bind (wpAny_attempt (wpAny_callSpecial?_slot (name:=Str.ofString "__next__") ty F.slot_zip_next (wpAny_call_entry F.slot_zip_next ty F.entry_zip_next (Om hh D hz hT hTI h1 h2 hl1 hl2 hend fun h' e hk he=>?_) (F.args_zip_next_1 _))))
 obtain ⟨o,ho,hc⟩:=he
 exact wpAny_bind (wpAny_isInstance (T:="StopIteration") (b:=true) ⟨o,ho,hc⟩ isSubtype_stop (wpAny_pure (hQ _ hk)))
structure ZSt (z TI TO i1 i2 l1 l2 S lo:Addr) (xs ys:Array Value) (i:Nat) (Ts:List Addr) (h:Heap):Prop where
 hTI:IsPair h TI (.ref i1) (.ref i2)
 h1:h.IsListIter i1 l1 i
 h2:h.IsListIter i2 l2 i
 hl1:h.IsList l1 xs
 hl2:h.IsList l2 ys
 zip:(i=0/\IsZip h z TI TO .none)∨∃ T:Addr,Ts[0]?=some T/\qO h z TI TO T
 hTO:∃ a b,IsPair h TO a b
 size:Ts.length=i
 up:Ts.Pairwise (·<·)
 sz:lo<=h.objs.size
 items:∀ (j:Nat) (T:Addr),Ts[j]?=some T->∃ (x y:Value),xs[j]?=some x/\ys[j]?=some y/\IsPair h T x y/\lo<=T/\T≠z/\T≠TO/\T≠i1/\T≠i2/\T≠S
def Yk (S lo:Addr) (xs ys:Array Value) (n:Nat) (Ts:List Addr) (h:Heap):Prop:=Ts.length=n/\Ts.Pairwise (·<·)/\∀ (j:Nat) (T:Addr),Ts[j]?=some T->∃ (x y:Value),xs[j]?=some x/\ys[j]?=some y/\IsPair h T x y/\lo<=T/\T≠S
theorem Ti {R:Result->Shared->Prop} {S lo:Addr} {n:Nat} (hh:A.in1.handled=none) (D:ZipApart z TI TO i1 i2 l1 l2) (s1:S≠z) (s2:S≠TI) (s3:S≠TO) (s4:S≠i1) (s5:S≠i2) (s6:S≠l1) (s7:S≠l2) (hn:n=min xs.size ys.size) (hb:n<=sizeLine) (res:Value) :
   ∀ (k i:Nat) (s:Shared) (Ts:List Addr) (c:Nat),n-i=k->i<=n->ZSt z TI TO i1 i2 l1 l2 S lo xs ys i Ts s.heap->s.heap.get? S=some { cls:=.type "list",dict:=none,data:=.seq (Ts.map Value.ref).toArray c,slots:=#[] } ->
   (∀ (h':Heap) (DX:List Addr) (c':Nat),Yk S lo xs ys n DX h'->(∀ b o,b≠S->b≠z->b≠TO->b≠i1->b≠i2->s.heap.get? b=some o->h'.get? b=some o) ->
     h'.get? S=some { cls:=.type "list",dict:=none,data:=.seq (DX.map Value.ref).toArray c',slots:=#[] }->R (.ok (.ret res)) { s with heap:=h' }) ->
   codeAny (model prog w) A (.builtin "list.extend.loop" ⟨[.ref S,.ref z,res],[]⟩) R s:=by
 intro k
 induction k with
 | zero =>
   intro i s Ts c hk hi st hS hR
   have hin:i=n:=by omega
   refine codeAny_builtin F.entry_extend_loop ?_
   rw [Around.under_plainId F.plain_extend_loop _]
   show wpAny _ A.in1 (pyNext (.ref z) >>= _) _ _ s
   have hend:xs[i]?=none∨ys[i]?=none:=by
     rcases Nat.le_total xs.size ys.size with q | q
     . exact .inl (Array.getElem?_eq_none (by omega))
     . exact .inr (Array.getElem?_eq_none (by omega))
   have fin:∀ h',(∀ c o,c≠z->c≠TO->c≠i1->c≠i2->s.heap.get? c=some o->h'.get? c=some o)->R (.ok (.ret res)) { s with heap:=h' }:=fun h' kk =>
     hR h' Ts c ⟨by rw [<- hin]; exact st.size,st.up,fun j T e=>by
       obtain ⟨x,y,a1,a2,a3,a4,a5,a6,a7,a8,a9⟩:=st.items j T e
       exact ⟨x,y,a1,a2,kk _ _ a5 a6 a7 a8 a3,a4,a9⟩⟩ (fun b o _ c2 c3 c4 c5 e=>kk b o c2 c3 c4 c5 e) (kk _ _ s1 s3 s4 s5 hS)
   rcases st.zip with ⟨_,hz⟩ | ⟨T,eT,hz⟩
   . obtain ⟨a,b,hTO⟩:=st.hTO
     exact wpAny_bind (wpAny_pyNext_zip_end hh D hz st.hTI hTO st.h1 st.h2 st.hl1 st.hl2 hend fun h' kk=>wpAny_pure (fin h' kk))
   . obtain ⟨x,y,_,_,pT,_⟩:=st.items 0 T eT
     exact wpAny_bind (Kq hh D hz ⟨_,pT⟩ st.hTI st.h1 st.h2 st.hl1 st.hl2 hend fun h' kk=>wpAny_pure (fin h' fun c o c1 _ c3 c4 e=>kk c o c1 c3 c4 e))
 | succ k ih =>
   intro i s Ts c hk hi st hS hR
   have hlt:i<n:=by omega
   refine codeAny_builtin F.entry_extend_loop ?_
   rw [Around.under_plainId F.plain_extend_loop _]
   show wpAny _ A.in1 (pyNext (.ref z) >>= _) _ _ s
   have hx:xs[i]?=some xs[i]:=Array.getElem?_eq_getElem (by omega)
   have hy:ys[i]?=some ys[i]:=Array.getElem?_eq_getElem (by omega)
   obtain ⟨T,hT⟩:∃ T,T=s.heap.objs.size:=⟨_,rfl⟩
   have lz:z<s.heap.objs.size:=by
     rcases st.zip with ⟨_,e⟩ | ⟨_,_,b,e⟩
     . exact Heap.lt_size e
     . exact Heap.lt_size e
   have lTO:TO<s.heap.objs.size:=by obtain ⟨_,_,e⟩:=st.hTO; exact Heap.lt_size e
   have li1:i1<s.heap.objs.size:=by obtain ⟨_,e,_⟩:=st.h1; exact Heap.lt_size e
   have li2:i2<s.heap.objs.size:=by obtain ⟨_,e,_⟩:=st.h2; exact Heap.lt_size e
   have lS:S<s.heap.objs.size:=Heap.lt_size hS
   have next:∀ h',((i+1=0/\IsZip h' z TI TO .none)∨∃ T':Addr,(Ts++[T])[0]?=some T'/\qO h' z TI TO T')->(∃ a b,IsPair h' TO a b)->h'.IsListIter i1 l1 (i+1)->h'.IsListIter i2 l2 (i+1)->IsPair h' T xs[i] ys[i]->h'.objs.size=s.heap.objs.size+1 ->
       (∀ c o,c≠z->c≠TO->c≠i1->c≠i2->s.heap.get? c=some o->h'.get? c=some o)->wpAny (model prog w) A.in1 (updateSeq S (·.push (.ref T)) >>= fun _=>again (.builtin "list.extend.loop" ⟨[.ref S,.ref z,res],[]⟩))
         (fun fin s'=>match fin with | .done f=>R (.ok f) s' | .again c'=>c'.quiet=true/\codeAny (model prog w) A c' R s') (fun e s'=>R (.error e) s') { s with heap:=h' }:=by
     intro h' zz hTO h1 h2 pT size kk
     have hS':=kk _ _ s1 s3 s4 s5 hS
     have ln:(Ts.map Value.ref).toArray.size=i:=by simp [st.size]
     refine wpAny_bind ?_
     refine wpAny_updateSeq hS' rfl (wpAny_pure ⟨plainId_quiet F.plain_extend_loop _,?_⟩) (by rw [ln]; omega) (by show ((Ts.map Value.ref).toArray.push _).size<=sizeLine+1; rw [Array.size_push,ln]; omega)
     have o:∀ b o,b≠S->h'.get? b=some o->(h'.update S (Obj.mapSeq (·.push (Value.ref T)))).get? b=some o:=fun b o nb e=>(Heap.get?_update_other _ _ (Ne.symm nb)).trans e
     have TS:T≠S:=by rw [hT]; exact Nat.ne_of_gt lS
     have e2:(h'.update S (Obj.mapSeq (·.push (Value.ref T)))).get? S=some { cls:=.type "list",dict:=none,data:=.seq ((Ts++[T]).map Value.ref).toArray (c+1),slots:=#[] }:=by
       have z:=Heap.get?_update_self (Obj.mapSeq (·.push (Value.ref T))) hS' rfl
       rw [z]
       simp [Obj.mapSeq]
     refine ih (i+1) _ (Ts++[T]) (c+1) (by omega) hlt ⟨o _ _ (Ne.symm s2) (kk _ _ D.TIz D.TITO D.TIi1 D.TIi2 st.hTI),h1.at fun o' e=>o _ o' (Ne.symm s4) e,h2.at fun o' e=>o _ o' (Ne.symm s5) e,
       st.hl1.at fun o' e=>o _ o' (Ne.symm s6) (kk _ o' D.l1z D.l1TO D.l1i1 D.l1i2 e),st.hl2.at fun o' e=>o _ o' (Ne.symm s7) (kk _ o' D.l2z D.l2TO D.l2i1 D.l2i2 e),?_,?_,by simp [st.size],?_,?_,fun j T2 e=>?_⟩ e2 ?_
     . rcases zz with ⟨q,_⟩ | ⟨T',e,hz⟩
       . omega
       . exact .inr ⟨T',e,hz.ext fun o' e=>o _ o' (Ne.symm s1) e⟩
     . obtain ⟨a,b,e⟩:=hTO
       exact ⟨a,b,o _ _ (Ne.symm s3) e⟩
     . refine List.pairwise_append.mpr ⟨st.up,List.pairwise_singleton _ _,fun a ha b hb=>?_⟩
       rw [List.mem_singleton.mp hb,hT]
       obtain ⟨j,ej⟩:=List.mem_iff_getElem?.mp ha
       obtain ⟨x,y,_,_,p,_⟩:=st.items j a ej
       exact Heap.lt_size p
     . rw [(Heap.SameBut.update h' S (Obj.mapSeq (·.push (Value.ref T)))).1,size]
       exact Nat.le_succ_of_le st.sz
     . rcases Nat.lt_or_ge j Ts.length with q | q
       . rw [List.getElem?_append_left q] at e
         obtain ⟨x,y,a1,a2,a3,a4,a5,a6,a7,a8,a9⟩:=st.items j T2 e
         exact ⟨x,y,a1,a2,o _ _ a9 (kk _ _ a5 a6 a7 a8 a3),a4,a5,a6,a7,a8,a9⟩
       . rw [List.getElem?_append_right q] at e
         have ej:j-Ts.length=0:=by
           rcases Nat.eq_zero_or_pos (j-Ts.length) with w | w
           . exact w
           . rw [List.getElem?_eq_none (by simp; omega)] at e; cases e
         rw [ej] at e
         have e':T=T2:=Option.some.inj e
         have ji:j=i:=by have:=st.size; omega
         subst e' ji
         refine ⟨xs[j],ys[j],hx,hy,o _ _ TS pT,by rw [hT]; exact st.sz,?_,?_,?_,?_,TS⟩ <;> (rw [hT]; first | exact Nat.ne_of_gt lz | exact Nat.ne_of_gt lTO | exact Nat.ne_of_gt li1 | exact Nat.ne_of_gt li2)
     . exact fun h'' DX c' fin k2 hS2=>hR h'' DX c' fin (fun b ob c1 c2 c3 c4 c5 e=>k2 b ob c1 c2 c3 c4 c5 (o b ob c1 (kk b ob c2 c3 c4 c5 e))) hS2
   subst hT
   rcases st.zip with ⟨i0,hz⟩ | ⟨T0,eT0,hz⟩
   . obtain ⟨a,b,hTO⟩:=st.hTO
     refine wpAny_bind (wpAny_pyNext_zip_item D hz st.hTI hTO st.h1 st.h2 st.hl1 st.hl2 hx hy fun h' a1 a2 a3 a4 a5 a6 a7=>?_)
     refine next h' (.inr ⟨_,?_,false,a1⟩) ⟨_,_,a2⟩ a3 a4 a5 a6 a7
     have:Ts=[]:=List.length_eq_zero_iff.mp (by rw [st.size]; exact i0)
     rw [this]; rfl
   . obtain ⟨x,y,_,_,pT,_⟩:=st.items 0 T0 eT0
     refine wpAny_bind (Ko D hz ⟨_,pT⟩ st.hTI st.h1 st.h2 st.hl1 st.hl2 hx hy fun h' b1 b2 b3 b4 b5 b6=>?_)
     refine next h' (.inr ⟨T0,?_,b1⟩) ?_ b2 b3 b4 b5 (fun c o c1 _ c3 c4 e=>b6 c o c1 c3 c4 e)
     . rw [List.getElem?_append_left (List.getElem?_eq_some_iff.mp eT0).1]; exact eT0
     . obtain ⟨a,b,e⟩:=st.hTO
       exact ⟨a,b,b6 _ _ D.TOz D.TOi1 D.TOi2 e⟩
theorem Kr:typeLookup (.type "zip") "__len__" = pure none:=by rw [typeLookup_type]; rw [builtinLookup_eq_fast]; kernel_rfl
theorem Fl:typeLookup (.type "zip") "__length_hint__" = pure none:=by rw [typeLookup_type]; rw [builtinLookup_eq_fast]; kernel_rfl
def V6 (S lo:Addr) (z TO i1 i2:Addr) (xs ys:Array Value) (s:Shared) (Q:Shared->Prop):Prop:=∀ (h':Heap) (DX:List Addr) (c':Nat),Yk S lo xs ys (min xs.size ys.size) DX h' ->
 (∀ b o,b≠S->b≠z->b≠TO->b≠i1->b≠i2->s.heap.get? b=some o->h'.get? b=some o)->h'.get? S=some { cls:=.type "list",dict:=none,data:=.seq (DX.map Value.ref).toArray c',slots:=#[] }->Q { s with heap:=h' }
theorem Fo {R:Result->Shared->Prop} {S lo:Addr} {c₀:Nat} (hh:A.in1.handled=none) (D:ZipApart z TI TO i1 i2 l1 l2) (s1:S≠z) (s2:S≠TI) (s3:S≠TO) (s4:S≠i1) (s5:S≠i2) (s6:S≠l1) (s7:S≠l2) (hb:min xs.size ys.size<=sizeLine) (res:Value)
   (hz:IsZip s.heap z TI TO .none) (st:ZSt z TI TO i1 i2 l1 l2 S lo xs ys 0 [] s.heap) (hS:s.heap.get? S=some { cls:=.type "list",data:=.seq #[] c₀ }) (hR:V6 S lo z TO i1 i2 xs ys s (R (.ok (.ret res)))) :
   wpAny (model prog w) A.in1 (Builtin.List.listExtendWith (.ref S) (.ref z) res) (fun fin s'=>match fin with | .done f=>R (.ok f) s' | .again c'=>c'.quiet=true/\codeAny (model prog w) A c' R s') (fun e s'=>R (.error e) s') s:=by
 have ty:s.TypeIs (.ref z) "zip":=⟨_,hz,rfl⟩
 unfold Builtin.List.listExtendWith
 refine wpAny_bind (wpAny_typeOf ty ?_)
 have e1:Builtin.List.listSameRef (.ref S) (.ref z)=false:=by simp [Builtin.List.listSameRef,s1]
 have e2:(Value.type "zip" == Value.type "list")=false:=(by decide)
 have e3:(Value.type "zip" == Value.type "tuple")=false:=(by decide)
 simp only [e1,e2,e3,Bool.or_false,Bool.false_eq_true,if_false]
 refine wpAny_bind (wpAny_pyIter_zip hz ?_)
 refine wpAny_bind (wpAny_holding ?_); unfold Builtin.List.listLengthHint
 refine wpAny_bind (wpAny_specialOf ty Kr ?_)
 show wpAny _ A.in1 (specialOf (Value.ref z) (Str.ofString "__length_hint__") >>= _) _ _ _
 refine wpAny_bind (wpAny_specialOf ty Fl (wpAny_pure ?_))
 show wpAny _ A.in1 (rule "list.extend.makes-room" >>= fun _=>Builtin.List.listTouch (.ref S) >>= fun _=>again (.builtin "list.extend.loop" ⟨[.ref S,.ref z,res],[]⟩)) _ _ _
 refine wpAny_bind (wpAny_rule (wpAny_bind ?_))
 show wpAny _ A.in1 (updateSeq S (·.push .none) >>= fun _=>updateSeq S (·.pop)) _ _ _
 refine wpAny_bind (wpAny_updateSeq hS rfl ?_)
 have g2:=Heap.get?_update_self (Obj.mapSeq (·.push Value.none)) hS rfl
 refine wpAny_updateSeq (hz:=by seq_fits) g2 rfl ?_
 have g3:=Heap.get?_update_self (Obj.mapSeq (·.pop)) g2 rfl
 have oth:∀ b o,b≠S->s.heap.get? b=some o->((s.heap.update S (Obj.mapSeq (·.push Value.none))).update S (Obj.mapSeq (·.pop))).get? b=some o:=fun b o nb e =>
   (Heap.get?_update_other _ _ (Ne.symm nb)).trans ((Heap.get?_update_other _ _ (Ne.symm nb)).trans e)
 have lz:((s.heap.update S (Obj.mapSeq (·.push Value.none))).update S (Obj.mapSeq (·.pop))).objs.size=s.heap.objs.size:=by rw [(Heap.SameBut.update _ _ _).1,(Heap.SameBut.update _ _ _).1]
 refine wpAny_pure ⟨plainId_quiet F.plain_extend_loop _,Ti (lo:=lo) hh D s1 s2 s3 s4 s5 s6 s7 rfl hb res _ 0 _ [] _ rfl (Nat.zero_le _) ⟨oth _ _ (Ne.symm s2) st.hTI,st.h1.at fun o e=>oth _ o (Ne.symm s4) e,st.h2.at fun o e=>oth _ o (Ne.symm s5) e,st.hl1.at fun o e=>oth _ o (Ne.symm s6) e,st.hl2.at fun o e=>oth _ o (Ne.symm s7) e,
   .inl ⟨rfl,oth _ _ (Ne.symm s1) hz⟩,?_,rfl,List.Pairwise.nil,by rw [lz]; exact st.sz,fun j T e=>by simp at e⟩ g3 fun h' DX c' fin kk hS'=>?_⟩
 . obtain ⟨a,b,e⟩:=st.hTO
   exact ⟨a,b,oth _ _ (Ne.symm s3) e⟩
 . exact hR h' DX c' fin (fun b o c1 c2 c3 c4 c5 e=>kk b o c1 c2 c3 c4 c5 (oth b o c1 e)) hS'
theorem Oo {R:Result->Shared->Prop} {S lo:Addr} (hh:A.in1.handled=none) (D:ZipApart z TI TO i1 i2 l1 l2) (s1:S≠z) (s2:S≠TI) (s3:S≠TO) (s4:S≠i1) (s5:S≠i2) (s6:S≠l1) (s7:S≠l2) (hb:min xs.size ys.size<=sizeLine)
   (hz:IsZip s.heap z TI TO .none) (st:ZSt z TI TO i1 i2 l1 l2 S lo xs ys 0 [] s.heap) (hS:s.heap.get? S=some { cls:=.type "list",data:=.seq #[] }) (hR:V6 S lo z TO i1 i2 xs ys s (R (.ok (.ret .none)))) :
   wpAny (model prog w) A.in1 (Builtin.«list.__init__» ⟨[.ref S,.ref z],[]⟩) (fun fin s'=>match fin with | .done f=>R (.ok f) s' | .again c'=>c'.quiet=true/\codeAny (model prog w) A c' R s') (fun e s'=>R (.error e) s') s:=by
 show wpAny _ A.in1 (do let old <- Builtin.List.listItems (.ref S); Builtin.List.listUpdate (.ref S) (fun _=>#[]); letGo old.toList.reverse; Builtin.List.listExtendWith (.ref S) (.ref z) .none) _ _ s
 refine wpAny_bind ?_; unfold Builtin.List.listItems
 refine wpAny_bind (wpAny_seqItems hS rfl (wpAny_pure ?_))
 show wpAny _ A.in1 (updateSeq S (fun _=>#[]) >>= fun _=>letGo (#[]:Array Value).toList.reverse >>= fun _=>Builtin.List.listExtendWith (.ref S) (.ref z) .none) _ _ s
 refine wpAny_bind (wpAny_updateSeq hS rfl ?_)
 have g2:=Heap.get?_update_self (Obj.mapSeq (fun _=>(#[]:Array Value))) hS rfl
 have oth:∀ b o,b≠S->s.heap.get? b=some o->(s.heap.update S (Obj.mapSeq (fun _=>(#[]:Array Value)))).get? b=some o:=fun b o nb e=>(Heap.get?_update_other _ _ (Ne.symm nb)).trans e
 refine wpAny_bind (wpAny_letGo ?_)
 refine Fo (lo:=lo) hh D s1 s2 s3 s4 s5 s6 s7 hb .none (oth _ _ (Ne.symm s1) hz) ⟨oth _ _ (Ne.symm s2) st.hTI,st.h1.at fun o e=>oth _ o (Ne.symm s4) e,st.h2.at fun o e=>oth _ o (Ne.symm s5) e,st.hl1.at fun o e=>oth _ o (Ne.symm s6) e,st.hl2.at fun o e=>oth _ o (Ne.symm s7) e,
   .inl ⟨rfl,oth _ _ (Ne.symm s1) hz⟩,?_,rfl,List.Pairwise.nil,by rw [(Heap.SameBut.update _ _ _).1]; exact st.sz,fun j T e=>by simp at e⟩ g2 fun h' DX c' fin kk hS'=>?_
 . obtain ⟨a,b,e⟩:=st.hTO
   exact ⟨a,b,oth _ _ (Ne.symm s3) e⟩
 . exact hR h' DX c' fin (fun b o c1 c2 c3 c4 c5 e=>kk b o c1 c2 c3 c4 c5 (oth b o c1 e)) hS'
theorem Oq {Q:Value->Shared->Prop} (hh:A.in1.in1.handled=none) (D:ZipApart z TI TO i1 i2 l1 l2) (hb:min xs.size ys.size<=sizeLine) (hz:IsZip s.heap z TI TO .none) (hTI:IsPair s.heap TI (.ref i1) (.ref i2)) (hTO:∃ a b,IsPair s.heap TO a b)
   (h1:s.heap.IsListIter i1 l1 0) (h2:s.heap.IsListIter i2 l2 0) (hl1:s.heap.IsList l1 xs) (hl2:s.heap.IsList l2 ys)
   (hQ:∀ (h':Heap) (DX:List Addr) (c':Nat),Yk s.heap.objs.size s.heap.objs.size xs ys (min xs.size ys.size) DX h'->(∀ b o,b≠s.heap.objs.size->b≠z->b≠TO->b≠i1->b≠i2->s.heap.get? b=some o->h'.get? b=some o) ->
     h'.get? s.heap.objs.size=some { cls:=.type "list",dict:=none,data:=.seq (DX.map Value.ref).toArray c',slots:=#[] }->Q (.ref s.heap.objs.size) { s with heap:=h' }):wpAny (model prog w) A (call (.type "list") [.ref z]) Q E s:=by
 have ne:∀ {b:Addr} {o:Obj},s.heap.get? b=some o->s.heap.objs.size≠b:=fun e=>Nat.ne_of_gt (Heap.lt_size e)
 have up:∀ b o,s.heap.get? b=some o->(s.heap.push { cls:=.type "list",data:=.seq #[] }).get? b=some o:=fun b o e=>Heap.get?_push_of_some _ e
 have n4:s.heap.objs.size≠i1:=by obtain ⟨_,e,_⟩:=h1; exact ne e
 have n5:s.heap.objs.size≠i2:=by obtain ⟨_,e,_⟩:=h2; exact ne e
 have n6:s.heap.objs.size≠l1:=by obtain ⟨_,e,_⟩:=hl1; exact ne e
 have n7:s.heap.objs.size≠l2:=by obtain ⟨_,e,_⟩:=hl2; exact ne e
 have n3:s.heap.objs.size≠TO:=by obtain ⟨_,_,e⟩:=hTO; exact ne e
 refine callType_codes (Q₁:=fun obj s₁=>obj=.ref s.heap.objs.size/\s₁={ s with heap:=s.heap.push { cls:=.type "list",data:=.seq #[] } }) F.called_list (F.typeCall_list_1 _) F.entry_list_init (code_list_new _ ⟨rfl,rfl⟩) fun obj s₁ h₁=>?_
 obtain ⟨rfl,rfl⟩:=h₁
 have gS:(s.heap.push { cls:=.type "list",data:=.seq #[] }).get? s.heap.objs.size=some { cls:=.type "list",data:=.seq #[] }:=(Heap.get?_push_size _ rfl)
 refine ⟨⟨_,gS,rfl⟩,F.args_list_init_2 _ _,Oo (lo:=s.heap.objs.size) hh D (ne hz) (ne hTI) n3 n4 n5 n6 n7 hb (up _ _ hz) ⟨up _ _ hTI,h1.at fun o e=>up _ o e,h2.at fun o e=>up _ o e,hl1.at fun o e=>up _ o e,hl2.at fun o e=>up _ o e,.inl ⟨rfl,up _ _ hz⟩,?_,rfl,List.Pairwise.nil,by rw [Heap.size_push]; exact Nat.le_succ _,fun j T e=>by simp at e⟩ gS fun h' DX c' fin kk hS'=>?_⟩
 . obtain ⟨a,b,e⟩:=hTO
   exact ⟨a,b,up _ _ e⟩
 . exact ⟨rfl,hQ h' DX c' fin (fun b o c1 c2 c3 c4 c5 e=>kk b o c1 c2 c3 c4 c5 (up b o e)) hS'⟩
end
end L2
namespace L2
open PySem PySem.Spec PyProof.Rows
def Ot (H N:Hp):Hp:=fun a=>(N a).or (H a)
section
variable {X:Cx} {pins:List (Addr × Obj)} {σ:St} {H N:Hp} {s:Shared} {h':Heap}
theorem Inv.many {t':Nat} (I:Inv X pins σ H s) (k:∀ b u,s.heap.get? b=some u->h'.get? b=some u) (hp:∀ a o,N a=some o->s.heap.objs.size<=a) (new:∀ a o,N a=some o->dR X.prog X.w (Ot H N) h' a o) :
   Inv X pins σ (Ot H N) { s with heap:=h',toks:=t' }:=by
 have old:∀ a o,H a=some o->Ot H N a=some o:=fun a o e=>by
   unfold Ot
   cases q:N a with
   | none=>simpa using e
   | some u=>exact absurd (Nat.lt_of_lt_of_le (I.hok.lt e) (hp a u q)) (Nat.lt_irrefl _)
 have frees:∀ b u,s.heap.get? b=some u->H b=none->Ot H N b=none:=fun b u q n=>by
   unfold Ot
   cases z:N b with
   | none=>simpa using n
   | some v=>exact absurd (Nat.lt_of_lt_of_le (Heap.lt_size q) (hp b v z)) (Nat.lt_irrefl _)
 refine I.un ⟨fun b u q _ _ _=>k b u q,fun b u q _ _ _=>⟨u.slots,k b u q⟩,fun b u q n _=>frees b u q n,fun b u q _=>⟨u,k b u q⟩,fun b xs q=>old b _ q,fun b o u q=>old b _ q,fun b ps q=>⟨#[],by rw [old b _ q]; simp⟩⟩ fun a o e=>?_
 cases q:N a with
 | some u =>
   have:Ot H N a=some u:=by unfold Ot; rw [q]; rfl
   rw [this] at e; cases e
   exact new a _ q
 | none =>
   have:Ot H N a=H a:=by unfold Ot; rw [q]; rfl
   rw [this] at e
   exact (I.hok a o e).stay (fun c v _ z=>k c v z) (fun c z=>old c _ z) fun c xs z=>old c _ z
end
theorem xP {β:Type}:∀ (P:List (Addr × β)),(P.map (·.1)).Pairwise (·<·)->∀ a b,(a,b)∈P->P.lookup a=some b
 | [],_,_,_,h=>by cases h
 | (c,d) :: P,hp,a,b,h=>by
   rw [List.map_cons,List.pairwise_cons] at hp
   rcases List.mem_cons.mp h with e | e
   . cases e; simp [List.lookup]
   . have lt:c<a:=hp.1 a (List.mem_map_of_mem (f:=Prod.fst) e)
     have:(a == c)=false:=by simpa using Nat.ne_of_gt lt
     rw [List.lookup_cons,this]
     exact xP P hp.2 a b e
theorem pC {β:Type}:∀ (P:List (Addr × β)) (a:Addr) (b:β),P.lookup a=some b->(a,b)∈P
 | [],_,_,h=>by cases h
 | (c,d) :: P,a,b,h=>by
   rw [List.lookup_cons] at h
   cases q:(a == c) with
   | true =>
     rw [q] at h
     have e:a=c:=by simpa using q
     have e2:d=b:=by simpa using h
     subst e e2
     exact List.mem_cons_self ..
   | false =>
     rw [q] at h
     exact List.mem_cons_of_mem _ (pC P a b (by simpa using h))
theorem xQ:∀ Ts:List Addr,Vals (Ts.map V.ref) (Ts.map Value.ref)
 | []=>.nil
 | _ :: t=>.cons rfl (xQ t)
def zN (S:Addr) (P:List (Addr × V × V)):Hp:=fun a=>if a=S then some (.lst (P.map fun q=>.ref q.1)) else (P.lookup a).map fun q=>.tup [q.1,q.2]
def Ou (K:PySem.W.Frag) (ta:TA):TE:=fun σ H Q=>ta σ H fun vs H1=>∃ l1 l2 xs ys,vs=[.ref l1,.ref l2]/\dg K H1 l1 xs/\dg K H1 l2 ys /\
 ∀ (S:Addr) (P:List (Addr × V × V)) (H2:Hp),H1 S=none->Same H1 H2->P.map (·.2)=xs.zip ys->H2 S=some (.lst (P.map fun q=>.ref q.1))->(∀ q∈P,H2 q.1=some (.tup [q.2.1,q.2.2]))->Q (.ref S) H2
theorem Fp {X:Cx} {a b:Expr} {ta:TA} {p p2 pos pos2:Pos} (hc:X.calm=true) (hgl:Gl X "list") (hml:X.mg "list" = none) (hg:Gl X "zip") (hm:X.mg "zip" = none) (ha:PA X [a,b] ta)
   (hs:starEach [a,b] X.env=[(false,eval a X.env),(false,eval b X.env)]:=by rfl) (hs2:starEach [b] X.env=[(false,eval b X.env)]:=by rfl)
   (hs3:starEach [.Call (.Name "zip" p2) [a,b] [] pos2] X.env=[(false,eval (.Call (.Name "zip" p2) [a,b] [] pos2) X.env)]:=by rfl) :
   PE X (.Call (.Name "list" p) [.Call (.Name "zip" p2) [a,b] [] pos2] [] pos) (Ou X.K ta):=by
 intro pins s σ H Q I h
 refine Call_ (pZ I hgl hml (show bootBuiltins "list" = some (.type "list") by decide +kernel) (PyProof.Rows.callWith_type1 ?_ (by rw [hs3]; rfl) rfl))
 rw [hs3]
 show wpAny _ _ (spliced ((false,eval (.Call (.Name "zip" p2) [a,b] [] pos2) X.env) :: [])) _ _ s
 refine Calls.spliced_cons ?_
 refine Call_ (pZ I hg hm (show bootBuiltins "zip" = some (.type "zip") by decide +kernel) (PyProof.Rows.callWith_type1 (eE (ha pos2 pins s σ H _ I h) fun us s1 ⟨vs,H1,I1,r1,q1⟩=>?_) (by rw [hs,hs2]) (by rw [hs2]; rfl)))
 obtain ⟨l1,l2,xs,ys,e,hq1,hq2,q⟩:=q1
 subst e
 obtain ⟨u,u',rfl,r,r'⟩:=vals2 r1
 cases (show u=Value.ref l1 from r)
 cases (show u'=Value.ref l2 from r')
 obtain ⟨aeM,rv1,pl1,z1⟩:=I1.list hq1
 obtain ⟨its2,rv2,pl2,z2⟩:=I1.list hq2
 have a1:l1<s1.heap.objs.size:=by obtain ⟨_,e,_⟩:=pl1.isList; exact Heap.lt_size e
 have a2:l2<s1.heap.objs.size:=by obtain ⟨_,e,_⟩:=pl2.isList; exact Heap.lt_size e
 have e1:=rv1.length
 have e2:=rv2.length
 refine call_zip_2 pl1.isList pl2.isList fun h1 hz hTI hTO hi1 hi2 hsz hk=>Calls.spliced_nil ?_
 have D:=zipApart_new a1 a2
 refine Oq (I1.ok.hd hc) D (by simp only [List.size_toArray]; omega) hz hTI ⟨_,_,hTO⟩ hi1 hi2 (pl1.isList.at fun o e=>hk _ o e) (pl2.isList.at fun o e=>hk _ o e) fun h2 Ts c fin kk hS=>?_
 obtain ⟨hn,up,items⟩:=fin
 have hsz':s1.heap.objs.size<=h1.objs.size:=by rw [hsz]; exact Nat.le_add_right _ _
 have hk2:∀ b o,s1.heap.get? b=some o->h2.get? b=some o:=fun b o e=>by
   have lt:b<s1.heap.objs.size:=Heap.lt_size e
   refine kk b o (Nat.ne_of_lt (Nat.lt_of_lt_of_le lt hsz')) ?_ ?_ ?_ ?_ (hk b o e)
   . exact Nat.ne_of_lt (Nat.lt_of_lt_of_le lt (Nat.le_add_right _ 4))
   . exact Nat.ne_of_lt (Nat.lt_of_lt_of_le lt (Nat.le_add_right _ 3))
   . exact Nat.ne_of_lt lt
   . exact Nat.ne_of_lt (Nat.lt_of_lt_of_le lt (Nat.le_add_right _ 1))
 have hn':Ts.length=min xs.length ys.length:=by rw [hn]; simp only [List.size_toArray]; omega
 obtain ⟨P,eP⟩:∃ P,P=Ts.zip (xs.zip ys):=⟨_,rfl⟩
 have P1:P.map (·.1)=Ts:=by rw [eP]; exact List.map_fst_zip (by rw [List.length_zip,hn']; exact Nat.le_refl _)
 have P2:P.map (·.2)=xs.zip ys:=by rw [eP]; exact List.map_snd_zip (by rw [List.length_zip,hn']; exact Nat.le_refl _)
 have aeP:P.map (fun q=>V.ref q.1)=Ts.map V.ref:=by rw [<- P1,List.map_map]; rfl
 have inP:∀ q∈P,∃ x y,IsPair h2 q.1 x y/\RelV q.2.1 x/\RelV q.2.2 y/\h1.objs.size<=q.1/\q.1≠h1.objs.size:=fun q hq=>by
   obtain ⟨j,ej⟩:=List.mem_iff_getElem?.mp hq
   rw [eP,List.getElem?_zip_eq_some] at ej
   obtain ⟨ej1,ej2⟩:=ej
   rw [List.getElem?_zip_eq_some] at ej2
   obtain ⟨x,y,b1,b2,b3,b4,b5⟩:=items j _ ej1
   obtain ⟨v1,c1,c2⟩:=rv1.get ej2.1
   obtain ⟨v2,c3,c4⟩:=rv2.get ej2.2
   have d1:aeM[j]?=some x:=by simpa using b1
   have d2:its2[j]?=some y:=by simpa using b2
   rw [d1] at c1; cases c1
   rw [d2] at c3; cases c3
   exact ⟨x,y,b3,c2,c4,b4,b5⟩
 have I2:Inv X pins σ (Ot H1 (zN h1.objs.size P)) { s1 with heap:=h2 }:=by
   refine I1.many (t':=s1.toks) hk2 (fun a o e=>?_) fun a o e=>?_
   . unfold zN at e
     split at e
     . next z=>rw [z]; exact hsz'
     . obtain ⟨q,lq,_⟩:=Option.map_eq_some_iff.mp e
       obtain ⟨_,_,_,_,_,le,_⟩:=inP _ (pC _ _ _ lq)
       exact Nat.le_trans hsz' le
   . unfold zN at e
     split at e
     . next z =>
       cases e
       subst z
       refine ⟨by rw [List.length_map,<- List.length_map (f:=(·.1)),P1,hn']; omega,Ts.map Value.ref,c,?_,hS⟩
       rw [aeP]
       exact xQ Ts
     . obtain ⟨q,lq,rfl⟩:=Option.map_eq_some_iff.mp e
       obtain ⟨x,y,b1,b2,b3,_,_⟩:=inP _ (pC _ _ _ lq)
       exact ⟨by show 2<=sizeLine; rw [sizeLine_eq]; decide,[x,y],.cons b2 (.cons b3 .nil),⟨_,b1,rfl,⟨_,rfl⟩,rfl⟩⟩
 have fr:∀ a,s1.heap.objs.size<=a->H1 a=none:=fun a ha=>I1.hok.fresh ha
 refine ⟨.ref h1.objs.size,_,I2,rfl,q h1.objs.size P _ (fr _ hsz') (fun b o e=>?_) P2 ?_ fun q2 hq2=>?_⟩
 . show (zN h1.objs.size P b).or (H1 b)=some o
   cases z:zN h1.objs.size P b with
   | none=>simpa using e
   | some u =>
     exfalso
     have:s1.heap.objs.size<=b:=by
       unfold zN at z
       split at z
       . next z'=>rw [z']; exact hsz'
       . obtain ⟨q,lq,_⟩:=Option.map_eq_some_iff.mp z
         obtain ⟨_,_,_,_,_,le,_⟩:=inP _ (pC _ _ _ lq)
         exact Nat.le_trans hsz' le
     rw [fr b this] at e; cases e
 . show (zN h1.objs.size P h1.objs.size).or _=_
   unfold zN
   rw [if_pos rfl]; rfl
 . show (zN h1.objs.size P q2.1).or _=_
   obtain ⟨_,_,_,_,_,_,ne⟩:=inP _ hq2
   unfold zN
   rw [if_neg ne,xP P (by rw [P1]; exact up) q2.1 q2.2 hq2]; rfl
end L2
namespace L2
open PySem PySem.Spec PyProof.Rows
section
variable {X:Cx} {elt kx vx tg iter:Expr} {ifs:List Expr} {scope g8:Scope} {pos:Pos} {own cap:List Str} {ix:List Nat} {wi:TI} {g:BI->TG} {tt:BI->TT} {tk tv:BI->TE}
theorem Yl:Ib X (.DictComp kx vx [⟨tg,iter,ifs,0⟩] scope pos) 0 iter.pos tg ifs (tailD kx vx) where
 hq:=fun _ _ _=>rfl
 hden:=fun it D env Q E s h=>by
   show wpAny _ X.A ((compTurn (.DictComp kx vx [⟨tg,iter,ifs,0⟩] scope pos) 0 (.ref it) (.ref D) env).onRaise (fun x=>do noteFrame x env; theTreesLotGoes x)) _ _ s
   exact wpAny_noted h
 hst:=fun it D env R s h0 h=>Er rfl rfl rfl (fun _=>rfl) rfl rfl h0 h
abbrev Tj (own:List Str) (ix:List Nat) (wi:TI) (g:BI->TG) (tt:BI->TT) (tk tv:BI->TE):TE:=Ep own ix (.dK []) wi g tt fun b D=>NT D (tk b) (tv b)
theorem Ks (hc:X.calm=true) (hX:X.env.scope=g8) (S:uh g8 scope X.N own cap ix) (hi:PI X tg iter wi) (hg:∀ b,PG (blk X scope (own++cap) b) tg (g b)) (ht:∀ b,Nm (blk X scope (own++cap) b) ifs (tt b))
   (hk:∀ b,PE (blk X scope (own++cap) b) kx (tk b)) (hv:∀ b,PE (blk X scope (own++cap) b) vx (tv b)) (hs:∀ x,foldedSetIterable iter X.env x=pure x:=by intro _; rfl) :
   PE X (.DictComp kx vx [⟨tg,iter,ifs,0⟩] scope pos) (Tj own ix wi g tt tk tv):=by
 intro pins s σ H Q I h
 show wpAny _ X.A (comprehension (.DictComp kx vx [⟨tg,iter,ifs,0⟩] scope pos) scope X.env _ newDict false (eval iter X.env)) _ _ s
 refine tD (use:=none) rfl Yl (fun _ _ _ _ _ _=>N6) hc hX S hi hg ht (fun b D=>Ka (fun _ _ f=>f) (hk b) (hv b)) hs I h fun D C H' s' q hn _ hI=>?_
 obtain ⟨m,hn⟩:=hn
 exact ⟨m,hn,fun h' hh=>⟨.ref D,H',hI h' hh,rfl,q⟩⟩
end
end L2
namespace L2
open PySem PySem.Spec PyProof.Rows
theorem rQ:mroOf (.type "dict")=pure [.type "dict",.type "object"]:=by rw [mroOf_type]; kernel_rfl
theorem uq:typeLookup (.type "dict") "__new__" = pure (some (.builtin "dict.__new__")):=by rw [typeLookup_type,builtinLookup_eq_fast]; kernel_rfl
theorem tH:TypeCalled "dict" "dict.__new__" "dict.__init__" :=
 ⟨by decide +kernel,by decide +kernel,⟨_,_,rQ⟩,madeBy_type rQ uq (by decide +kernel),by decide +kernel,by rw [isSubtype_type]; kernel_rfl,PySem.F.slot_dict_init⟩
theorem nj (a:Value):checkTypeCall "dict" ⟨[a],[]⟩=pure ():=by kernel_rfl
theorem vf (a:Value):checkBuiltinCall "dict.__new__" ⟨[.type "dict",a],[]⟩=pure ():=by kernel_rfl
theorem vg:entryFor table "dict.__new__" = some Builtin.«dict.__new__»:=entryFor_of_tree (by kernel_rfl)
theorem oA:plainId "dict.__new__" = true:=by decide +kernel
theorem iT:entryFor table "dict.update.loop" = some Builtin.«dict.update.loop»:=entryFor_of_tree (by kernel_rfl)
theorem dO:plainId "dict.update.loop" = true:=by decide +kernel
theorem wL:isSubtype (.type "dict") (.type "dict")=pure true:=by rw [isSubtype_type]; kernel_rfl
section
variable {prog:Program} {w:World} {A:Around} {E:Value->Shared->Prop} {s:Shared}
theorem pW (a:Value) {Q₁:Value->Shared->Prop}
   (h:Q₁ (.ref s.heap.objs.size) { s with heap:=s.heap.push { cls:=.type "dict",data:=.dict #[] } }) :
   codeAny (model prog w) A (.call (.builtin "dict.__new__") ⟨[.type "dict",a],[]⟩) (wants Q₁ E) s:=by
 refine codeAny_of_tree ?_
 show wpAny _ A.in1 (do checkBuiltinCall "dict.__new__" ⟨[.type "dict",a],[]⟩; again (.builtin "dict.__new__" ⟨[.type "dict",a],[]⟩)) _ _ s
 refine wpAny_bind (wpAny_of_eq (vf a) (wpAny_pure ⟨plainId_quiet oA _,codeAny_builtin vg ?_⟩))
 rw [Around.under_plainId oA _]
 have hsub:=wL
 have hmro:=rQ
 have hty:∀ s:Shared,s.TypeIs (.type "dict") "type":=fun _=>rfl
 obtain ⟨hp,g,d,tk,os⟩:=s
 unfold Builtin.«dict.__new__»
 repeat (any_goals (first | assumption | wp_step))
theorem BW:typeLookup (.type "list") "keys" = pure none:=by rw [typeLookup_type,builtinLookup_eq_fast]; kernel_rfl
set_option maxRecDepth 8000 in
theorem Tn {a:Addr} {o:Obj} {xs:Array Value} {k:Nat} {Q:Option Value->Shared->Prop}
   (hx:s.heap.get? a=some o) (hc:o.cls=.type "list") (hdat:o.data=.seq xs k) (hd:o.dict=none) (hA:A.handled=none)
   (h:∀ h' tk e,Heap.NewExcOf s.heap h' e "AttributeError"->Q none { s with heap:=h',toks:=tk }) :
   wpAny (model prog w) A (getAttr? (.ref a) "keys") Q E s:=by
 obtain ⟨c,dct,dat,sl⟩:=o
 simp only at hc hdat hd
 subst hc hdat hd
 obtain ⟨hp,g,d,tk,os⟩:=s
 have hT:∀ tk',(⟨hp,g,d,tk',os⟩:Shared).TypeIs (.ref a) "list":=fun _=>⟨_,hx,rfl⟩
 have f1:=sub_AttributeError
 have f3:=F.slot_list_getattribute.lookup
 have f4:=F.slot_list_getattribute.bind (.ref a)
 have f5:=am_list_getattr_none
 unfold getAttr? getAttrBy? getAttrBy
 repeat (any_goals (first | assumption | exact hT _ | ((with_reducible show wpAny _ _ (call (Value.builtin "list.__getattribute__") _ _) _ _ _); refine call_meets F.slot_list_getattribute (hT _) am_entry_list_getattribute (F.args_list_getattribute_2 _ _) (meets_getattribute_miss_list a xs k sl "keys" _ BW (by decide +kernel) (by size_fits)) ⟨hx,hA,fun h' tk' e hx'=>?_⟩) | wp_step))
 obtain ⟨t',u',he⟩:=hx'.there
 show wpAny _ _ (getattributeRaised _ _ _ _ _ _ _) _ _ _
 unfold getattributeRaised
 repeat (any_goals (first | assumption | wp_step))
 exact h _ _ _ hx'.of
end
end L2
namespace L2
open PySem PySem.Spec PyProof.Rows
section
variable {prog:Program} {w:World} {A:Around} {E:Value->Shared->Prop} {s:Shared}
theorem IsTup.pairItems {T:Addr} {x y:Value} {Q:List Value->Shared->Prop} (h:IsTup s.heap T #[x,y]) (q:Q [x,y] s):wpAny (model prog w) A (Builtin.Dict.pairItems (.ref T)) Q E s:=by
 obtain ⟨o,e,c,n,d⟩:=h
 unfold Builtin.Dict.pairItems
 refine wpAny_bind (wpAny_typeOf (T:="tuple") ⟨o,e,c⟩ ?_)
 rw [if_pos (by decide)]
 exact wpAny_bind (wpAny_seqItems e d (wpAny_pure q))
variable {K:Type} [DecidableEq K] (knd:KeyKind prog w K)
theorem abn {R:Result->Shared->Prop} {d it l:Addr} {items:Array Value} {kvs:List (K × Value)} (hh:A.in1.handled=none) (n1:d≠it) (n2:d≠l) (n3:it≠l) (hb:kvs.length<=sizeLine) (hn:items.size=kvs.length) :
   ∀ (k i:Nat) (s:Shared),kvs.length-i=k->i<=kvs.length->s.heap.DictOf knd d (merged [] (kvs.take i))->s.heap.IsListIter it l i->s.heap.IsList l items ->
   (∀ (j:Nat) (kv:K × Value),kvs[j]?=some kv->∃ T key,items[j]?=some (.ref T)/\IsTup s.heap T #[key,kv.2]/\knd.is kv.1 key=true/\T≠d/\T≠it) ->
   (∀ (h':Heap) (tk:Nat),h'.DictOf knd d (merged [] kvs)->(∀ b o,b≠d->b≠it->s.heap.get? b=some o->h'.get? b=some o)->R (.ok (.ret .none)) { s with heap:=h',toks:=tk }) ->
   codeAny (model prog w) A (.builtin "dict.update.loop" ⟨[.ref d,.ref it,rawInt i,.none],[]⟩) R s:=by
 intro k
 induction k with
 | zero =>
   intro i s hk hi hd hit hl ht hR
   have hin:i=kvs.length:=by omega
   refine codeAny_builtin iT ?_
   rw [Around.under_plainId dO _]
   show wpAny _ A.in1 (pyNext (.ref it) >>= _) _ _ s
   refine wpAny_bind (wpAny_pyNext_list_end hh hit hl (Array.getElem?_eq_none (by omega)) fun h' eb=>?_)
   show wpAny _ A.in1 (Builtin.Dict.addKeywords d [] >>= fun _=>ret Value.none) _ _ _
   refine wpAny_bind (wpAny_pure (wpAny_pure (hR h' s.toks ?_ fun b o _ b2 e=>eb b o b2 e)))
   rw [hin,List.take_length] at hd
   obtain ⟨o,es,ep,ho,r⟩:=hd
   exact ⟨o,es,ep,eb _ _ n1 ho,r⟩
 | succ k ih =>
   intro i s hk hi hd hit hl ht hR
   have hlt:i<kvs.length:=by omega
   obtain ⟨kv,hkv⟩:∃ kv,kvs[i]?=some kv:=⟨kvs[i],List.getElem?_eq_getElem hlt⟩
   obtain ⟨T,key,hx,hT,hkey,t1,t2⟩:=ht i kv hkv
   refine codeAny_builtin iT ?_
   rw [Around.under_plainId dO _]
   show wpAny _ A.in1 (pyNext (.ref it) >>= _) _ _ s
   refine wpAny_bind (wpAny_pyNext_list_item hit hl hx fun h' g1 sb=>?_)
   have hT':IsTup h' T #[key,kv.2]:=by obtain ⟨o,e,r⟩:=hT; exact ⟨o,(sb.2 T t2).trans e,r⟩
   have hd':h'.DictOf knd d (merged [] (kvs.take i)):=by obtain ⟨o,es,ep,ho,r⟩:=hd; exact ⟨o,es,ep,(sb.2 d n1).trans ho,r⟩
   refine wpAny_bind (wpAny_holding (wpAny_bind (wpAny_tryCatch (IsTup.pairItems hT' ?_))))
   show wpAny _ A.in1 (holding [key,kv.2] (dictSet d key kv.2)) _ _ _
   refine wpAny_holding ?_
   unfold dictSet
   refine wpAny_holding (wpAny_bind (knd.pyHash hkey ?_))
   have hlm:(merged [] (kvs.take i)).length<=sizeLine:=by
     have z:=merged_length_le ([]:List (K × Value)) (kvs.take i)
     rw [List.length_nil,List.length_take] at z
     omega
   refine wpAny_dictSetHashed_pairs (s:={ s with heap:=h',toks:=s.toks+1 }) (hsz:=hlm) hkey hd' fun h2 hd2 Ij=>?_
   show wpAny _ A.in1 (again (.builtin "dict.update.loop" ⟨[.ref d,.ref it,rawInt ((i:Int)+1),.none],[]⟩)) _ _ _
   have kk:∀ b o,b≠d->b≠it->s.heap.get? b=some o->h2.get? b=some o:=fun b o b1 b2 e=>(Ij.2 b b1).trans ((sb.2 b b2).trans e)
   refine wpAny_pure ⟨plainId_quiet dO _,ih (i+1) _ (by omega) hlt (by rw [merged_take_succ [] kvs i kv hkv]; exact hd2) (g1.at fun o e=>(Ij.2 it (Ne.symm n1)).trans e) (hl.at fun o e=>kk _ o (Ne.symm n2) (Ne.symm n3) e) (fun j kv2 hj=>?_) fun h3 tk Ym k3=>?_⟩
   . obtain ⟨T2,key2,a1,⟨o,a2,Yn⟩,a3,a4,a5⟩:=ht j kv2 hj
     exact ⟨T2,key2,a1,⟨o,kk _ _ a4 a5 a2,Yn⟩,a3,a4,a5⟩
   . exact hR h3 tk Ym fun b o b1 b2 e=>k3 b o b1 b2 (kk b o b1 b2 e)
end
section
variable {X:Cx}
theorem vo {P:Program} {w:World} {H:Hp} {h:Heap} (ok:pY P w H h):∀ (ps:List (Addr × Key × V)) (its:List Value),Vals (ps.map fun p=>V.ref p.1) its->(∀ p∈ps,H p.1=some (.tup [kV p.2.1,p.2.2])) ->
   ∃ vs:List (Key × Value),KV (ps.map (·.2)) vs/\∀ (j:Nat) (kv:Key × Value),vs[j]?=some kv->∃ T key,its[j]?=some (.ref T)/\IsTup h T #[key,kv.2]/\(bW P w).is kv.1 key=true
 | [],_,.nil,_=>⟨[],.nil,fun j kv e=>by simp at e⟩
 | p :: ps,u :: us,.cons ru rv,hp=>by
   obtain ⟨vs,r,hv⟩:=vo ok ps us rv fun q hq=>hp q (List.mem_cons_of_mem _ hq)
   cases (show u=Value.ref p.1 from ru)
   obtain ⟨_,its,r2,ob⟩:=(show dR P w H h p.1 (.tup [kV p.2.1,p.2.2]) from ok _ _ (hp p List.mem_cons_self))
   obtain ⟨k,v,rfl,rk,rw⟩:=vals2 r2
   refine ⟨(p.2.1,v) :: vs,.cons ⟨rfl,rw⟩ r,fun j kv e=>?_⟩
   cases j with
   | zero =>
     cases (show some (p.2.1,v)=some kv from e)
     exact ⟨p.1,k,rfl,ob.to,uQ rk⟩
   | succ j=>exact hv j kv (by simpa using e)
theorem Fq (hc:X.calm=true):gC X (.type "dict") (fun xs H Q=>∃ (l:Addr) (ps:List (Addr × Key × V)),xs=[.ref l]/\H l=some (.lst (ps.map fun p=>.ref p.1))/\(∀ p∈ps,H p.1=some (.tup [kV p.2.1,p.2.2]))/\∀ d,H d=none->Q (.ref d) (upd H d (.dK (gA [] (ps.map (·.2)))))):=by
 intro pins s σ H xs us Q I r h
 obtain ⟨l,ps,rfl,hl,hp,q⟩:=h
 obtain ⟨u,rfl,ru⟩:=vals1 r
 cases ru
 obtain ⟨zl,its,n,rv,ln,el⟩:=I.JR hl
 obtain ⟨vs,rel,hv⟩:=vo I.hok ps its rv hp
 have lvs:vs.length=its.length:=by have z:=rel.length; rw [List.length_map] at z; rw [List.length_map] at ln; omega
 rw [ln] at zl
 have ll:l<s.heap.objs.size:=Heap.lt_size el
 refine callType_codes (Q₁:=fun obj s₁=>obj=.ref s.heap.objs.size/\s₁={ s with heap:=s.heap.push { cls:=.type "dict",data:=.dict #[] } }) tH (nj _) PySem.F.entry_dict_init (pW _ ⟨rfl,rfl⟩) fun obj s₁ h₁=>?_
 obtain ⟨rfl,rfl⟩:=h₁
 have up:∀ c o,s.heap.get? c=some o->(s.heap.push { cls:=.type "dict",data:=.dict #[] }).get? c=some o:=fun c o e=>Heap.get?_push_of_some _ e
 have dS:(s.heap.push { cls:=.type "dict",data:=.dict #[] }).DictOf (bW X.prog X.w) s.heap.objs.size []:=Heap.DictOf.new _
 refine ⟨⟨_,Heap.get?_push_size _ rfl,rfl⟩,PySem.F.args_dict_init_2 _ _,?_⟩
 unfold Builtin.«dict.__init__»
 refine wpAny_bind ?_
 unfold Builtin.Dict.selfAndRest
 refine wpAny_bind (wpAny_notOrdered_dict (Heap.DictOf.typeIs (s:={ s with heap:=s.heap.push { cls:=.type "dict",data:=.dict #[] } }) dS) ?_)
 refine wpAny_pure ?_
 show wpAny _ _ (Builtin.Dict.updateFrom "dict.__init__" s.heap.objs.size (.ref l) [] .none) _ _ _
 unfold Builtin.Dict.updateFrom
 refine wpAny_bind (wpAny_typeOf (T:="list") ⟨_,up _ _ el,rfl⟩ ?_)
 rw [if_pos (by decide)]
 refine wpAny_bind (Tn (A:=X.A.in1.in1) (up _ _ el) rfl rfl rfl (I.ok.hd hc) fun h1 tk e ne=>?_)
 rw [if_pos (show (none:Option Value).isNone=true from rfl)]
 refine wpAny_bind (wpAny_rule ?_)
 have k1:∀ c o,s.heap.get? c=some o->h1.get? c=some o:=fun c o q=>ne.keeps c o (up c o q)
 have Z8:s.heap.objs.size<h1.objs.size:=by obtain ⟨o,_,_,e,_⟩:=dS; exact Heap.lt_size (ne.keeps _ _ e)
 have hl1:h1.IsList l its.toArray:=⟨_,k1 _ _ el,rfl,n,rfl⟩
 refine wpAny_bind (wpAny_pyIter_list (s:={ s with heap:=h1,toks:=tk }) hl1 ?_)
 have k2:∀ c o,h1.get? c=some o->(h1.push { cls:=.type "list_iterator",data:=.fields #[.ref l,.int 0 0] }).get? c=some o:=fun c o q=>Heap.get?_push_of_some _ q
 refine wpAny_pure ⟨plainId_quiet dO _,?_⟩
 have dz:∀ c,c<s.heap.objs.size->c≠s.heap.objs.size/\c≠h1.objs.size:=fun c hc=>⟨Nat.ne_of_lt hc,Nat.ne_of_lt (Nat.lt_trans hc Z8)⟩
 refine abn (A:=X.A.in1) (bW X.prog X.w) (d:=s.heap.objs.size) (it:=h1.objs.size) (l:=l) (items:=its.toArray) (kvs:=vs) (I.ok.hd hc) (Nat.ne_of_lt Z8) (Ne.symm (dz l ll).1) (Ne.symm (dz l ll).2) (by omega) (by simp only [List.size_toArray]; omega) _ 0 _ rfl (Nat.zero_le _)
   (by rw [List.take_zero]; exact (dS.keep ne.keeps).keep k2) ⟨_,Heap.get?_push_size _ rfl,rfl,rfl⟩ (hl1.at fun o q=>k2 _ o q) (fun j kv hj=>?_) fun h3 tk3 Ym k3=>⟨rfl,?_⟩
 . obtain ⟨T,key,a1,⟨o,a2,Yn⟩,a3⟩:=hv j kv hj
   have lt:=Heap.lt_size a2
   exact ⟨T,key,by simpa using a1,⟨o,k2 _ _ (k1 _ _ a2),Yn⟩,a3,(dz T lt).1,(dz T lt).2⟩
 . have kk:∀ c o,s.heap.get? c=some o->h3.get? c=some o:=fun c o e=>k3 c o (dz c (Heap.lt_size e)).1 (dz c (Heap.lt_size e)).2 (k2 _ _ (k1 _ _ e))
   have rm:KV (gA [] (ps.map (·.2))) (merged [] vs):=rel.merge .nil
   have zm:(gA [] (ps.map (·.2))).length<=sizeLine:=by
     have z:=lg (ps.map (·.2)) []
     rw [List.length_nil,List.length_map] at z
     rw [List.length_map] at ln
     omega
   exact ⟨.ref s.heap.objs.size,_,I.laid (t':=tk3) kk (Nat.le_refl _) (uT zm (beq_eq_false_iff_ne.mpr (Ne.symm (Nat.ne_of_lt I.big))) rm Ym),rfl,q _ (I.hok.fresh (Nat.le_refl _))⟩
end
end L2
namespace L2
open PySem PySem.Spec PyProof.Rows
def cQ (H H':Hp):Prop:=∀ b o,H b=some o->H' b=some o∨∃ kvs ob,o=.dK kvs/\H' b=some (.nu ob o)
theorem cQ.of {H H':Hp} (s:Same H H'):cQ H H':=fun b o e=>.inl (s b o e)
theorem cQ.refl (H:Hp):cQ H H:=fun _ _ e=>.inl e
theorem cQ.trans {H H1 H2:Hp} (a:cQ H H1) (b:cQ H1 H2):cQ H H2:=fun c o e=>by
 rcases a c o e with q | ⟨kvs,ob,rfl,q⟩
 . exact b c o q
 . rcases b c _ q with z | ⟨_,_,z,_⟩
   . exact .inr ⟨kvs,ob,rfl,z⟩
   . cases z
theorem cQ.rd {H H':Hp} (s:cQ H H') {a:Addr} {kvs:List (Key × V)} (h:Rd H a (.dK kvs)):Rd H' a (.dK kvs):=by
 rcases h with h | ⟨o,h⟩
 . rcases s a _ h with q | ⟨_,ob,_,q⟩
   . exact .inl q
   . exact .inr ⟨ob,q⟩
 . rcases s a _ h with q | ⟨_,_,z,_⟩
   . exact .inr ⟨o,q⟩
   . cases z
theorem cQ.lst {H H':Hp} (s:cQ H H') {a:Addr} {xs:List V} (h:H a=some (.lst xs)):H' a=some (.lst xs):=by
 rcases s a _ h with q | ⟨_,_,z,_⟩
 . exact q
 . cases z
theorem cQ.nu {H H':Hp} (s:cQ H H') {a:Addr} {o:Obj} {u:HO} (h:H a=some (.nu o u)):H' a=some (.nu o u):=by
 rcases s a _ h with q | ⟨_,_,z,_⟩
 . exact q
 . cases z
def Itd (d:Addr) (o:Obj) (kvs:List (Key × V)):It:=⟨fun i H=>H d=some (.nu o (.dK kvs))/\i<kvs.length,fun i H v H'=>H'=H/\∃ k x,kvs[i]?=some (k,x)/\v=kV k,fun i H=>H d=some (.nu o (.dK kvs))/\kvs.length<=i⟩
theorem Ku {P:Program} {w:World} {k:Key} {u:Value} (h:(bW P w).is k u=true):RelV (kV k) u:=by
 rcases cB (show pP k u=true from h) with ⟨j,t,e1,e2⟩ | ⟨x',t,e1,e2⟩ | ⟨e1,e2⟩
 . subst e1 e2; exact ⟨t,rfl⟩
 . subst e1 e2; exact ⟨t,rfl⟩
 . subst e1 e2; rfl
section
variable {X:Cx} {pins:List (Addr × Obj)} {σ:St} {H:Hp} {s:Shared}
theorem Inv.freeze {a:Addr} {kvs:List (Key × V)} (I:Inv X pins σ H s) (h:H a=some (.dK kvs)):∃ o,Inv X pins σ (upd H a (.nu o (.dK kvs))) s:=by
 obtain ⟨z,d,vs,rel,o,es,ep,e,r⟩:=xg I.hok h
 exact ⟨o,I.write (t':=s.toks) (h':=s.heap) (e:=a) (by rw [h]; exact True.intro) (.inl rfl) (fun b u _ q=>q) ⟨o,e⟩ ⟨e,z,d,vs,rel,o,es,ep,e,r⟩⟩
theorem Inv.nu {a:Addr} {o:Obj} {kvs:List (Key × V)} (I:Inv X pins σ H s) (h:H a=some (.nu o (.dK kvs))):∃ vs es ep,KV kvs vs/\(a == sysModules)=false/\o.data=.dict es ep/\s.heap.DictAt (bW X.prog X.w) a vs ep:=by
 obtain ⟨e,z,d,vs,rel,o',es,ep,e',r⟩:=(show dR X.prog X.w H s.heap a (.nu o (.dK kvs)) from I.hok a _ h)
 rw [e] at e'
 cases e'
 exact ⟨vs,es,ep,rel,d,r.2.1,o,es,e,r⟩
theorem Kv {P:Program} {w:World} {K:PySem.W.Frag} {tg:Expr} (d it:Addr) (o:Obj) (es:Array DictEntry) (ep:Nat) (kvs:List (Key × V)) (hd:o.data=.dict es ep) :
   Turn P w K tg (Itd d o kvs) [it] it (fun i h=>h.IsKeyIter it d i kvs.length ep) where
 mem:=by simp
 obj:=fun i h st b hb=>by
   have e:b=it:=by simpa using hb
   subst e
   obtain ⟨o,e,c,dd⟩:=st
   exact ⟨o,e,fun v z=>by rw [dd] at z; cases z⟩
 keep:=fun i h h' st k=>st.at fun o e=>k it (by simp) o e
 item:=by
   intro X hP hw hK hc i pins s σ H E I hf st hg
   subst hP hw hK
   obtain ⟨f0,f1,f2,f3,f4,f5⟩:=hf it (by simp)
   obtain ⟨hd',lt⟩:=hg
   obtain ⟨vs,es',ep',rel,_,dd,hat⟩:=I.nu hd'
   rw [hd] at dd
   cases dd
   have lv:=rel.length
   obtain ⟨⟨k,x⟩,hx⟩:∃ p,vs[i]?=some p:=⟨vs[i]'(by omega),List.getElem?_eq_getElem _⟩
   have hk:∃ y,kvs[i]?=some (k,y):=by
     have z:=congrArg (fun l=>l[i]?) rel.keys
     simp only [List.getElem?_map,hx,Option.map_some] at z
     obtain ⟨p,e1,e2⟩:=Option.map_eq_some_iff.mp z
     exact ⟨p.2,by rw [e1,<- e2]⟩
   obtain ⟨y,hy⟩:=hk
   refine wpAny_pyNext_dict_item (by rw [<- lv]; exact st) hat hx fun key h' hkey hit' hs'=>?_
   have I1:Inv X pins σ H { s with heap:=h',toks:=s.toks }:=I.turned (fun b o hb e=>hs'.extBut b o hb e) f0 f1 f3 f4 f5
   rw [<- lv] at hit'
   obtain ⟨oi,ei,ci,di⟩:=id hit'
   exact ⟨_,rfl,uO (s:={ s with heap:=h' }) (n:="dict_keyiterator") ei ci di (by decide) ⟨kV k,H,I1,Ku hkey,⟨rfl,k,y,hy,rfl⟩,hit',fun b hb=>(hf b hb).1⟩⟩
 done:=by
   intro X hP hw hK hc i pins s σ H E I hf st hg
   subst hP hw hK
   obtain ⟨f0,f1,f2,f3,f4,f5⟩:=hf it (by simp)
   obtain ⟨hd',le⟩:=hg
   obtain ⟨vs,es',ep',rel,_,dd,hat⟩:=I.nu hd'
   rw [hd] at dd
   cases dd
   have lv:=rel.length
   exact wpAny_pyNext_dict_end (I.ok.hd hc) (by rw [<- lv]; exact st) hat (List.getElem?_eq_none (by omega)) fun h' eb=>⟨rfl,I.turned (t':=s.toks) (fun b o hb e=>eb b o hb e) f0 f1 f3 f4 f5⟩
 self:=fun _ _ _ _ _ st h=>wpAny_pyIter_keyiter st h
def abo (tl:TE):TI:=fun σ H R=>tl σ H fun x H1=>∃ a kvs,x=.ref a/\Rd H1 a (.dK kvs)/\∀ (o:Obj) (H2:Hp),H2 a=some (.nu o (.dK kvs))->cQ H1 H2->(∀ b,b≠a->H2 b=H1 b)->R (Itd a o kvs) H2
theorem Tp {tg l:Expr} {tl:TE} (hl:PE X l tl):PI X tg l (abo tl):=by
 intro pins s σ H R I h
 refine eE (hl pins s σ H _ I h) fun v s1 ⟨x,H1,I1,r1,q1⟩=>?_
 obtain ⟨a,kvs,e,hq,q⟩:=q1
 subst e
 cases r1
 obtain ⟨o,H2,I2,e2,sf,oth⟩:∃ o H2,Inv X pins σ H2 s1/\H2 a=some (.nu o (.dK kvs))/\cQ H1 H2/\∀ b,b≠a->H2 b=H1 b:=by
   rcases hq with hq | ⟨o,hq⟩
   . obtain ⟨o,I2⟩:=I1.freeze hq
     refine ⟨o,_,I2,aq,fun b u e=>?_,fun b hb=>aL hb⟩
     by_cases z:b=a
     . subst z
       rw [hq] at e
       cases e
       exact .inr ⟨kvs,o,rfl,aq⟩
     . exact .inl (by rw [aL z]; exact e)
   . exact ⟨o,H1,I1,hq,cQ.refl _,fun _ _=>rfl⟩
 obtain ⟨vs,es,ep,rel,ds,dd,hat⟩:=I2.nu e2
 refine wpAny_pyIter_dict ds hat ?_
 refine ⟨s1.heap.objs.size,[s1.heap.objs.size],_,_,H2,rfl,I2.kept (t':=s1.toks) fun b o e=>Heap.get?_push_of_some _ e,Kv a _ o es ep kvs dd,⟨_,Heap.get?_push_size _ rfl,rfl,by rw [<- rel.length]; rfl⟩,fun b hb=>?_,q o H2 e2 sf oth⟩
 have e:b=s1.heap.objs.size:=by simpa using hb
 subst e
 exact I2.Ba (Nat.le_refl _) (I2.hok.fresh (Nat.le_refl _))
end
section
variable {H1:Hp} {D:Addr} {σ0:St} {g:BI->TG} {tt:BI->TT} {te:BI->TE} {End:Hp->Prop}
theorem Kw {a:Addr} {o:Obj} {kvs:List (Key × V)} (Pv:Nat->Hp->Prop) (h0:Pv 0 (upd H1 D (.lst []))) (hl:∀ i H,i<=kvs.length->Pv i H->H a=some (.nu o (.dK kvs))) (stop:∀ H,Pv kvs.length H->End H)
   (turn:∀ i k x H,kvs[i]?=some (k,x)->i<kvs.length->Pv i H->∀ b,g b (kV k) σ0 H fun σ2 H2=>tt b σ2 H2 fun c H3=>if c=true then nZ D (te b) σ2 H3 (Nx kvs.length i Pv) else Nx kvs.length i Pv H3) :
   ∃ W:Nat->Nat->Hp->Prop,(∃ m,W 0 m (upd H1 D (.lst [])))/\∀ b,nY (Itd a o kvs) (g b) (tt b) (nZ D (te b)) σ0 End W :=
 qK kvs.length Pv h0 (fun H p=>⟨⟨hl _ H (Nat.le_refl _) p,Nat.le_refl _⟩,stop H p⟩) fun i H hi p =>
   ⟨⟨hl i H (Nat.le_of_lt hi) p,hi⟩,fun x H' ⟨e,k,y,hy,ex⟩ b=>by subst e ex; exact turn i k y _ hy hi p b⟩
end
end L2
namespace HT
open PySem PySem.Spec PyProof.Rows
section
variable {prog:Program} {w:World} {A:Around} {E:Value->Shared->Prop} {s:Shared}
end
end HT
namespace L2
open PySem PySem.Spec PyProof.Rows
section
variable {X:Cx}
end
end L2
namespace L2
open PySem PySem.Spec PyProof.Rows
section
variable {X:Cx}
theorem zc (hc:X.calm=true):gC X (.builtin "sorted") (fun xs H Q=>∃ p kvs ss,xs=[.ref p]/\Rd H p (.dK kvs)/\kvs.map (·.1)=ss.map Sum.inr/\ss.length<64/\∀ l ss',H l=none->ss'.Perm ss->sortedS ss'=true->Q (.ref l) (upd H l (.lst (ss'.map V.str)))):=by
 intro pins s σ H xs us Q I r h
 obtain ⟨p,kvs,ss,rfl,hp,hk,h64,q⟩:=h
 obtain ⟨u,rfl,ru⟩:=vals1 r
 cases ru
 obtain ⟨z,d,vs,rel,dd⟩:=sY I.hok hp
 have hl:kvs.length=ss.length:=by have:=congrArg List.length hk; simpa using this
 have hvl:vs.length=ss.length:=by rw [<- rel.length]; exact hl
 have mJ:sizeLine=16777216:=sizeLine_eq
 obtain ⟨ep,hat⟩:=dd.dictAt
 refine xK h64 (fun R hR=>PySem.W.kdu_collect (A:=X.A.in1) (PySem.W.kdl_dict (knd:=bW X.prog X.w) (kvs:=vs) (ep:=ep) d) (by simpa using I.ok.hd hc) hat (by omega) fun h' tk acc kk hacc=>hR h' tk acc.toList kk ?_) fun h1 h' tk out ss' n k1 k2 ho hS hp2 hs=>?_
 . refine yS (by rw [Array.length_toList]; exact hacc.1.trans hvl) fun i v e=>?_
   obtain ⟨k,x,ek,hk'⟩:=hacc.2 i v (by simpa using e)
   have ek2:(kvs.map (·.1))[i]?=some k:=by
     rw [rel.keys,List.getElem?_map,ek]; rfl
   rw [hk,List.getElem?_map] at ek2
   cases es:ss[i]? with
   | none=>rw [es] at ek2; cases ek2
   | some y =>
     rw [es] at ek2
     cases (show some (Sum.inr y:Key)=some k from ek2)
     rcases cB (show pP (Sum.inr y) v=true from hk') with ⟨j,t,e1,e2⟩ | ⟨x',t,e1,e2⟩ | ⟨e1,e2⟩
     . cases e1
     . cases e1
       exact ⟨y,t,rfl,e2⟩
     . cases e1
 . have I1:Inv X pins σ H { s with heap:=h1,toks:=tk }:=I.kept k1
   have hl':ss'.length=ss.length:=hp2.length_eq
   exact ⟨.ref h1.objs.size,_,I1.laid (t':=tk) (o:=.lst (ss'.map V.str)) k2 (Nat.le_refl _) ⟨by rw [List.length_map]; omega,out,n,Ie hS,ho⟩,rfl,q _ _ (I1.hok.fresh (Nat.le_refl _)) hp2 hs⟩
end
end L2
namespace L2
open PySem PySem.Spec PyProof.Rows
section
variable {prog:Program} {w:World} {A:Around} {E:Value->Shared->Prop} {s:Shared}
theorem zf:typeLookup (.type "tuple") "keys" = pure none:=by rw [typeLookup_type,builtinLookup_eq_fast]; kernel_rfl
set_option maxRecDepth 8000 in
theorem Ov {a:Addr} {o:Obj} {xs:Array Value} {k:Nat} {Q:Option Value->Shared->Prop}
   (hx:s.heap.get? a=some o) (hc:o.cls=.type "tuple") (hdat:o.data=.seq xs k) (hd:o.dict=none) (hA:A.handled=none)
   (h:∀ h' tk e,Heap.NewExcOf s.heap h' e "AttributeError"->Q none { s with heap:=h',toks:=tk }) :
   wpAny (model prog w) A (getAttr? (.ref a) "keys") Q E s:=by
 obtain ⟨c,dct,dat,sl⟩:=o
 simp only at hc hdat hd
 subst hc hdat hd
 obtain ⟨hp,g,d,tk,os⟩:=s
 have hT:∀ tk',(⟨hp,g,d,tk',os⟩:Shared).TypeIs (.ref a) "tuple":=fun _=>⟨_,hx,rfl⟩
 have f1:=sub_AttributeError
 have f3:=F.slot_tuple_getattribute.lookup
 have f4:=F.slot_tuple_getattribute.bind (.ref a)
 have f5:=am_tuple_getattr_none
 unfold getAttr? getAttrBy? getAttrBy
 repeat (any_goals (first | assumption | exact hT _ | ((with_reducible show wpAny _ _ (call (Value.builtin "tuple.__getattribute__") _ _) _ _ _); refine call_meets F.slot_tuple_getattribute (hT _) am_entry_tuple_getattribute (F.args_tuple_getattribute_2 _ _) (meets_getattribute_miss_tuple a xs k sl "keys" _ zf (by decide +kernel) (by size_fits)) ⟨hx,hA,fun h' tk' e hx'=>?_⟩) | wp_step))
 obtain ⟨t',u',he⟩:=hx'.there
 show wpAny _ _ (getattributeRaised _ _ _ _ _ _ _) _ _ _
 unfold getattributeRaised
 repeat (any_goals (first | assumption | wp_step))
 exact h _ _ _ hx'.of
variable {K:Type} [DecidableEq K] (knd:KeyKind prog w K)
theorem Yo {R:Result->Shared->Prop} {d it l:Addr} {items:Array Value} {kvs:List (K × Value)} (hh:A.in1.handled=none) (n1:d≠it) (n2:d≠l) (n3:it≠l) (hb:kvs.length<=sizeLine) (hn:items.size=kvs.length) :
   ∀ (k i:Nat) (s:Shared),kvs.length-i=k->i<=kvs.length->s.heap.DictOf knd d (merged [] (kvs.take i))->s.heap.IsTupleIter it l i->s.heap.IsTuple l items ->
   (∀ (j:Nat) (kv:K × Value),kvs[j]?=some kv->∃ T key,items[j]?=some (.ref T)/\IsTup s.heap T #[key,kv.2]/\knd.is kv.1 key=true/\T≠d/\T≠it) ->
   (∀ (h':Heap) (tk:Nat),h'.DictOf knd d (merged [] kvs)->(∀ b o,b≠d->b≠it->s.heap.get? b=some o->h'.get? b=some o)->R (.ok (.ret .none)) { s with heap:=h',toks:=tk }) ->
   codeAny (model prog w) A (.builtin "dict.update.loop" ⟨[.ref d,.ref it,rawInt i,.none],[]⟩) R s:=by
 intro k
 induction k with
 | zero =>
   intro i s hk hi hd hit hl ht hR
   have hin:i=kvs.length:=by omega
   refine codeAny_builtin iT ?_
   rw [Around.under_plainId dO _]
   show wpAny _ A.in1 (pyNext (.ref it) >>= _) _ _ s
   refine wpAny_bind (wpAny_pyNext_tuple_end hh hit hl (Array.getElem?_eq_none (by omega)) fun h' eb=>?_)
   show wpAny _ A.in1 (Builtin.Dict.addKeywords d [] >>= fun _=>ret Value.none) _ _ _
   refine wpAny_bind (wpAny_pure (wpAny_pure (hR h' s.toks ?_ fun b o _ b2 e=>eb b o b2 e)))
   rw [hin,List.take_length] at hd
   obtain ⟨o,es,ep,ho,r⟩:=hd
   exact ⟨o,es,ep,eb _ _ n1 ho,r⟩
 | succ k ih =>
   intro i s hk hi hd hit hl ht hR
   have hlt:i<kvs.length:=by omega
   obtain ⟨kv,hkv⟩:∃ kv,kvs[i]?=some kv:=⟨kvs[i],List.getElem?_eq_getElem hlt⟩
   obtain ⟨T,key,hx,hT,hkey,t1,t2⟩:=ht i kv hkv
   refine codeAny_builtin iT ?_
   rw [Around.under_plainId dO _]
   show wpAny _ A.in1 (pyNext (.ref it) >>= _) _ _ s
   refine wpAny_bind (wpAny_pyNext_tuple_item hit hl hx fun h' g1 sb=>?_)
   have hT':IsTup h' T #[key,kv.2]:=by obtain ⟨o,e,r⟩:=hT; exact ⟨o,(sb.2 T t2).trans e,r⟩
   have hd':h'.DictOf knd d (merged [] (kvs.take i)):=by obtain ⟨o,es,ep,ho,r⟩:=hd; exact ⟨o,es,ep,(sb.2 d n1).trans ho,r⟩
   refine wpAny_bind (wpAny_holding (wpAny_bind (wpAny_tryCatch (IsTup.pairItems hT' ?_))))
   show wpAny _ A.in1 (holding [key,kv.2] (dictSet d key kv.2)) _ _ _
   refine wpAny_holding ?_
   unfold dictSet
   refine wpAny_holding (wpAny_bind (knd.pyHash hkey ?_))
   have hlm:(merged [] (kvs.take i)).length<=sizeLine:=by
     have z:=merged_length_le ([]:List (K × Value)) (kvs.take i)
     rw [List.length_nil,List.length_take] at z
     omega
   refine wpAny_dictSetHashed_pairs (s:={ s with heap:=h',toks:=s.toks+1 }) (hsz:=hlm) hkey hd' fun h2 hd2 Ij=>?_
   show wpAny _ A.in1 (again (.builtin "dict.update.loop" ⟨[.ref d,.ref it,rawInt ((i:Int)+1),.none],[]⟩)) _ _ _
   have kk:∀ b o,b≠d->b≠it->s.heap.get? b=some o->h2.get? b=some o:=fun b o b1 b2 e=>(Ij.2 b b1).trans ((sb.2 b b2).trans e)
   refine wpAny_pure ⟨plainId_quiet dO _,ih (i+1) _ (by omega) hlt (by rw [merged_take_succ [] kvs i kv hkv]; exact hd2) (let ⟨o,e,r⟩:=g1; ⟨o,(Ij.2 it (Ne.symm n1)).trans e,r⟩) (let ⟨o,e,r⟩:=hl; ⟨o,kk _ o (Ne.symm n2) (Ne.symm n3) e,r⟩) (fun j kv2 hj=>?_) fun h3 tk Ym k3=>?_⟩
   . obtain ⟨T2,key2,a1,⟨o,a2,Yn⟩,a3,a4,a5⟩:=ht j kv2 hj
     exact ⟨T2,key2,a1,⟨o,kk _ _ a4 a5 a2,Yn⟩,a3,a4,a5⟩
   . exact hR h3 tk Ym fun b o b1 b2 e=>k3 b o b1 b2 (kk b o b1 b2 e)
end
section
variable {X:Cx}
theorem BX (hc:X.calm=true):gC X (.type "dict") (fun xs H Q=>∃ (l:Addr) (ps:List (Addr × Key × V)),xs=[.ref l]/\H l=some (.tup (ps.map fun p=>.ref p.1))/\(∀ p∈ps,H p.1=some (.tup [kV p.2.1,p.2.2]))/\∀ d,H d=none->Q (.ref d) (upd H d (.dK (gA [] (ps.map (·.2)))))):=by
 intro pins s σ H xs us Q I r h
 obtain ⟨l,ps,rfl,hl,hp,q⟩:=h
 obtain ⟨u,rfl,ru⟩:=vals1 r
 cases ru
 obtain ⟨zl,its,rv,ol,el,cl,⟨n,dl⟩,nl⟩:=(show dR X.prog X.w H s.heap l (.tup _) from I.hok _ _ hl)
 have ln:(ps.map fun p=>V.ref p.1).length=its.length:=rv.length
 obtain ⟨vs,rel,hv⟩:=vo I.hok ps its rv hp
 have lvs:vs.length=its.length:=by have z:=rel.length; rw [List.length_map] at z; rw [List.length_map] at ln; omega
 rw [ln] at zl
 have ll:l<s.heap.objs.size:=Heap.lt_size el
 refine callType_codes (Q₁:=fun obj s₁=>obj=.ref s.heap.objs.size/\s₁={ s with heap:=s.heap.push { cls:=.type "dict",data:=.dict #[] } }) tH (nj _) PySem.F.entry_dict_init (pW _ ⟨rfl,rfl⟩) fun obj s₁ h₁=>?_
 obtain ⟨rfl,rfl⟩:=h₁
 have up:∀ c o,s.heap.get? c=some o->(s.heap.push { cls:=.type "dict",data:=.dict #[] }).get? c=some o:=fun c o e=>Heap.get?_push_of_some _ e
 have dS:(s.heap.push { cls:=.type "dict",data:=.dict #[] }).DictOf (bW X.prog X.w) s.heap.objs.size []:=Heap.DictOf.new _
 refine ⟨⟨_,Heap.get?_push_size _ rfl,rfl⟩,PySem.F.args_dict_init_2 _ _,?_⟩
 unfold Builtin.«dict.__init__»
 refine wpAny_bind ?_
 unfold Builtin.Dict.selfAndRest
 refine wpAny_bind (wpAny_notOrdered_dict (Heap.DictOf.typeIs (s:={ s with heap:=s.heap.push { cls:=.type "dict",data:=.dict #[] } }) dS) ?_)
 refine wpAny_pure ?_
 show wpAny _ _ (Builtin.Dict.updateFrom "dict.__init__" s.heap.objs.size (.ref l) [] .none) _ _ _
 unfold Builtin.Dict.updateFrom
 refine wpAny_bind (wpAny_typeOf (T:="tuple") ⟨_,up _ _ el,cl⟩ ?_)
 rw [if_pos (by decide)]
 refine wpAny_bind (Ov (A:=X.A.in1.in1) (up _ _ el) cl dl nl (I.ok.hd hc) fun h1 tk e ne=>?_)
 rw [if_pos (show (none:Option Value).isNone=true from rfl)]
 refine wpAny_bind (wpAny_rule ?_)
 have k1:∀ c o,s.heap.get? c=some o->h1.get? c=some o:=fun c o q=>ne.keeps c o (up c o q)
 have Z8:s.heap.objs.size<h1.objs.size:=by obtain ⟨o,_,_,e,_⟩:=dS; exact Heap.lt_size (ne.keeps _ _ e)
 have hl1:h1.IsTuple l its.toArray:=⟨_,k1 _ _ el,cl,n,dl⟩
 refine wpAny_bind (wpAny_pyIter_tuple (s:={ s with heap:=h1,toks:=tk }) hl1 ?_)
 have k2:∀ c o,h1.get? c=some o->(h1.push { cls:=.type "tuple_iterator",data:=.fields #[.ref l,.int 0 0] }).get? c=some o:=fun c o q=>Heap.get?_push_of_some _ q
 refine wpAny_pure ⟨plainId_quiet dO _,?_⟩
 have dz:∀ c,c<s.heap.objs.size->c≠s.heap.objs.size/\c≠h1.objs.size:=fun c hc=>⟨Nat.ne_of_lt hc,Nat.ne_of_lt (Nat.lt_trans hc Z8)⟩
 refine Yo (A:=X.A.in1) (bW X.prog X.w) (d:=s.heap.objs.size) (it:=h1.objs.size) (l:=l) (items:=its.toArray) (kvs:=vs) (I.ok.hd hc) (Nat.ne_of_lt Z8) (Ne.symm (dz l ll).1) (Ne.symm (dz l ll).2) (by omega) (by simp only [List.size_toArray]; omega) _ 0 _ rfl (Nat.zero_le _)
   (by rw [List.take_zero]; exact (dS.keep ne.keeps).keep k2) ⟨_,Heap.get?_push_size _ rfl,rfl,rfl⟩ (let ⟨o,e,r⟩:=hl1; ⟨o,k2 _ o e,r⟩) (fun j kv hj=>?_) fun h3 tk3 Ym k3=>⟨rfl,?_⟩
 . obtain ⟨T,key,a1,⟨o,a2,Yn⟩,a3⟩:=hv j kv hj
   have lt:=Heap.lt_size a2
   exact ⟨T,key,by simpa using a1,⟨o,k2 _ _ (k1 _ _ a2),Yn⟩,a3,(dz T lt).1,(dz T lt).2⟩
 . have kk:∀ c o,s.heap.get? c=some o->h3.get? c=some o:=fun c o e=>k3 c o (dz c (Heap.lt_size e)).1 (dz c (Heap.lt_size e)).2 (k2 _ _ (k1 _ _ e))
   have rm:KV (gA [] (ps.map (·.2))) (merged [] vs):=rel.merge .nil
   have zm:(gA [] (ps.map (·.2))).length<=sizeLine:=by
     have z:=lg (ps.map (·.2)) []
     rw [List.length_nil,List.length_map] at z
     rw [List.length_map] at ln
     omega
   exact ⟨.ref s.heap.objs.size,_,I.laid (t':=tk3) kk (Nat.le_refl _) (uT zm (beq_eq_false_iff_ne.mpr (Ne.symm (Nat.ne_of_lt I.big))) rm Ym),rfl,q _ (I.hok.fresh (Nat.le_refl _))⟩
def Tq (ta:TE):TE:=fun σ H Q=>ta σ H fun x H1=>∃ c,x=.bl c/\Q (.bl c) H1
theorem Ky {a:Expr} {ta:TE} {j pos'} (ha:PE X a ta):PC X .IsNot a (.Constant (.bool false) j pos') (Tq ta):=by
 intro pins s σ H Q I h
 refine eE (ha pins s σ H _ I h) fun v s1 ⟨x,H1,I1,r1,c,e,q1⟩=>?_
 subst e
 cases r1
 refine Constant_bool ?_
 cases c with
 | false=>exact wpAny_pure ⟨.bl false,H1,I1,rfl,q1⟩
 | true=>exact wpAny_pure ⟨.bl true,H1,I1,rfl,q1⟩
end
end L2
namespace HT
open PySem PySem.Spec PyProof.Rows
theorem zj (l b:Addr) (items:Array Value) (n n2:Nat) (dd dd2:Option Addr) (sl sl2:Array (Option Value)) :
   Meets (Builtin.«tuple.__eq__» ⟨[.ref l,.ref b],[]⟩) (fun _ R s=>s.heap.get? l=some { cls:=.type "tuple",dict:=dd,data:=.seq items n,slots:=sl }/\s.heap.get? b=some { cls:=.type "tuple",dict:=dd2,data:=.seq #[] n2,slots:=sl2 }/\R (.ok (.ret (Value.bool items.isEmpty))) s) :=
 .of_wp fun prog w A R s h=>by
   obtain ⟨hp,g,d,tk,os⟩:=s; obtain ⟨hl,hb,h⟩:=h; have f2:=AutoSeq1.sub_tuple_tuple
   obtain ⟨items⟩:=items
   cases items with
   | nil =>
     wp_walk using wpAny_loadPart' hl,wpAny_loadPart' hb
     exact ⟨_,rfl,h⟩
   | cons x xs =>
     wp_walk using wpAny_loadPart' hl,wpAny_loadPart' hb
     exact ⟨_,rfl,h⟩
section
variable {prog:Program} {w:World} {A:Around} {E:Value->Shared->Prop} {s:Shared}
theorem Ft {t b:Addr} {items:Array Value} {Q:Value->Shared->Prop} (ht:IsTup s.heap t items) (hb:IsTup s.heap b (#[]:Array Value)) (hu:A.units<cLine)
   (h:Q (.bool items.isEmpty) s):wpAny (model prog w) A (compareOp .Eq (.ref t) (.ref b)) Q E s:=by
 obtain ⟨⟨cls,dd,data,sl⟩,ho,hc,n,hd⟩:=id ht
 obtain ⟨⟨cls2,dd2,data2,sl2⟩,ho2,hc2,n2,hd2⟩:=id hb
 simp only at hc hd hc2 hd2
 subst hc hd hc2 hd2
 exact richCompare_meets_room (op:=.Eq) ⟨_,ho,rfl⟩ ⟨_,ho2,rfl⟩ PySem.F.slot_tuple_eq PySem.F.entry_tuple_eq (PySem.F.args_tuple_eq_2 _ _) (zj t b items n n2 dd dd2 sl sl2)
   ⟨ho,ho2,show Value.bool items.isEmpty≠Value.notImplemented/\Q (.bool items.isEmpty) s from ⟨(fun x=>nomatch x),h⟩⟩ hu
end
end HT
namespace L2
open PySem PySem.Spec PyProof.Rows
section
variable {X:Cx}
structure EqT (x y:V) (H:Hp) (Q:VK):Prop where
 h:∃ a b xs,x=.ref a/\y=.ref b/\H a=some (.tup xs)/\H b=some (.tup [])/\Q (.bl xs.isEmpty) H
theorem aeU (hu:X.A.units<cLine):iD X (compareOp .Eq) EqT:=by
 intro pins s σ H x y v u Q I rx ry ⟨h⟩
 obtain ⟨a,b,xs,rfl,rfl,ha,hb,q⟩:=h
 cases rx
 cases ry
 obtain ⟨its,r1,p1,_⟩:=I.tuple (bM.of ha)
 obtain ⟨its2,r2,p2,_⟩:=I.tuple (bM.of hb)
 have e:its2=[]:=r2.j8.mpr rfl
 subst e
 refine HT.Ft p1 p2 hu ⟨.bl xs.isEmpty,H,I,?_,q⟩
 have e2:its.toArray.isEmpty=xs.isEmpty:=by
   have:=r1.j8
   cases xs <;> cases its <;> simp_all
 rw [e2]
 rfl
end
end L2
namespace gY
open PySem L2
theorem mQ {c:TT} {t e u:TS} {D:Ends} {σ:St} {H:Hp} (N:St->Hp->Prop) (h:∀ U:St->Hp->Prop,(∀ σ' H',N σ' H'->U σ' H')->Ec c t e { D with nx:=U } σ H) (hN:∀ σ' H',N σ' H'->u D σ' H'):nA (Ec c t e) u D σ H:=h (u D) hN
theorem jf {te:TE} {g:TG} {u:TS} {D:Ends} {σ:St} {H:Hp} (h:∀ U:St->Hp->Prop,U=u D->te σ H fun x H1=>g x σ H1 U):nA (nJ te g) u D σ H:=h (u D) rfl
theorem gn {i:Nat} {v:V} {n:St->Hp->Prop} {σ:St} {H:Hp} (h:n (σ.set i (some v)) H):jE i v σ H n:=h
theorem cC {G:Prop} (h:∀ R:Prop,R=G->R):G:=h G rfl
def isW:V->Bool
 | .int _=>true
 | _=>false
def Thing (K:PySem.W.Frag) (H:Hp) (x:V):Prop:=(∃ T,jJ K H x (.type T))/\∀ z,x=.str z->z.length<=sizeLine
def low (c:Nat):Bool:=97<=c && c<=122
def BZ:V->Bool
 | .str z=>decide (1<=z.length) && decide (z.length<=8) && z.cps.toList.all low
 | _=>false
def zp (K:PySem.W.Frag):Sp:=fun vs H Q _=>∃ x,vs=[x]/\Thing K H x/\Q (.bl (isW x)) H
def Fv (K:PySem.W.Frag):Sp:=fun vs H Q _=>∃ x,vs=[x]/\Thing K H x/\∀ H',Same H H'->Q (.bl (BZ x)) H'
section
variable {P:Program} {w:World} {K:PySem.W.Frag} {mg:Str->Option Value} {base:Heap} {t8 t6 tR tL:Tok}
theorem Yp {H:Hp} {x:V} {T:String} (h:jJ K H x (.type T)):(yO T "int" && !yO T "bool")=isW x:=by
 cases h <;> rfl
theorem Yq (c:Nat):(!decide ((⟨#[c]⟩:Str).cps.toList<("a" : Str).cps.toList))=decide (97<=c)/\(!decide (("z" : Str).cps.toList<(⟨#[c]⟩:Str).cps.toList))=decide (c<=122):=by
 have ea:("a" : Str).cps.toList=[97]:=by decide +kernel
 have ez:("z" : Str).cps.toList=[122]:=by decide +kernel
 have es:(⟨#[c]⟩:Str).cps.toList=[c]:=rfl
 rw [ea,ez,es]
 constructor
 . rw [Bool.eq_iff_iff]; simp [lt1]
 . rw [Bool.eq_iff_iff]; simp [lt1]
end
end gY
namespace gY
open PySem L2
structure Good (z:Str):Prop where
 lo:1<=z.length
 hi:z.length<=8
 all:∀ c∈z.cps.toList,low c=true
theorem Good.BZ {z:Str} (g:Good z):gY.BZ (.str z)=true:=by
 have h:z.cps.toList.all low=true:=List.all_eq_true.mpr g.all
 simp [gY.BZ,g.lo,g.hi,h]
abbrev Row:=Str × Int
structure aJ where
 name:Str
 low:Int
 high:Int
 aK:Int
 runs:List (List Row)
abbrev Letter:=(Str × Str) × Int × Option Int
def oE:Option Int->V
 | none=>.non
 | some i=>.int i
def dZ (H:Hp) (v:V) (r:Row):Prop:=∃ a,v=.ref a/\H a=some (.tup [.str r.1,.int r.2])
def gH (H:Hp) (v:V) (rs:List Row):Prop:=∃ a vs,v=.ref a/\H a=some (.tup vs)/\Paired (dZ H) vs rs
def lA (H:Hp) (v:V) (rs:List (List Row)):Prop:=∃ a vs,v=.ref a/\H a=some (.tup vs)/\Paired (gH H) vs rs
def fj (H:Hp) (v:V) (h:aJ):Prop:=∃ a b,v=.ref a/\H a=some (.tup [.str h.name,.int h.low,.int h.high,.int h.aK,b])/\lA H b h.runs
def gJ (H:Hp) (v:V) (hs:List aJ):Prop:=∃ a vs,v=.ref a/\H a=some (.tup vs)/\Paired (fj H) vs hs
def fu (H:Hp) (v:V) (l:Letter):Prop:=∃ a,v=.ref a/\H a=some (.tup [.str l.1.1,.str l.1.2,.int l.2.1,oE l.2.2])
def fW (H:Hp) (v:V) (ls:List Letter):Prop:=∃ a vs,v=.ref a/\H a=some (.tup vs)/\Paired (fu H) vs ls
def cU (H:Hp) (v:V) (hs:List aJ) (ls:List Letter):Prop:=∃ a x y,v=.ref a/\H a=some (.tup [x,y])/\gJ H x hs/\fW H y ls
section
variable {H H':Hp} {v:V} (s:dX H H')
include s
theorem dZ.ts {r:Row} (h:dZ H v r):dZ H' v r:=let ⟨a,e,g⟩:=h; ⟨a,e,s _ _ g⟩
theorem gH.ts {r:List Row} (h:gH H v r):gH H' v r:=let ⟨a,vs,e,g,p⟩:=h; ⟨a,vs,e,s _ _ g,aO (fun _ _ q=>dZ.ts s q) p⟩
theorem lA.ts {r:List (List Row)} (h:lA H v r):lA H' v r:=let ⟨a,vs,e,g,p⟩:=h; ⟨a,vs,e,s _ _ g,aO (fun _ _ q=>gH.ts s q) p⟩
theorem fj.ts {r:aJ} (h:fj H v r):fj H' v r:=let ⟨a,b,e,g,p⟩:=h; ⟨a,b,e,s _ _ g,lA.ts s p⟩
theorem gJ.ts {r:List aJ} (h:gJ H v r):gJ H' v r:=let ⟨a,vs,e,g,p⟩:=h; ⟨a,vs,e,s _ _ g,aO (fun _ _ q=>fj.ts s q) p⟩
theorem fu.ts {r:Letter} (h:fu H v r):fu H' v r:=let ⟨a,e,g⟩:=h; ⟨a,e,s _ _ g⟩
theorem fW.ts {r:List Letter} (h:fW H v r):fW H' v r:=let ⟨a,vs,e,g,p⟩:=h; ⟨a,vs,e,s _ _ g,aO (fun _ _ q=>fu.ts s q) p⟩
theorem cU.ts {hs:List aJ} {ls:List Letter} (h:cU H v hs ls):cU H' v hs ls:=let ⟨a,x,y,e,g,p,q⟩:=h; ⟨a,x,y,e,s _ _ g,gJ.ts s p,fW.ts s q⟩
end
structure pF (rs:List Row):Prop where
 ne:rs≠[]
 few:rs.length<=25
 names:∀ r∈rs,Good r.1
 rise:(rs.map Prod.snd).Pairwise (·<·)
structure cD (h:aJ):Prop where
 name:Good h.name
 wide:h.low<=h.high
 aK:0<=h.aK
 few:h.runs.length<=25
 runs:∀ r∈h.runs,pF r
def bL (h:aJ):List Row:=h.runs.flatten
def aR (h:aJ):List Str:=(bL h).map Prod.fst
def namesOf (hs:List aJ):List Str:=hs.flatMap aR
structure bw (hs:List aJ):Prop where
 lo:1<=hs.length
 hi:hs.length<=6
 all:∀ h∈hs,cD h
 names:(hs.map aJ.name).Nodup
 rows:(namesOf hs).Nodup
 few:(namesOf hs).length<=24
structure ql (hs:List aJ) (l:Letter):Prop where
 sent:Good l.1.1
 taken:Good l.1.2
 least:1<=l.2.1
 most:∀ m,l.2.2=some m->l.2.1<=m
 Fx:∃ h1∈hs,∃ h2∈hs,l.1.1∈aR h1/\l.1.2∈aR h2/\h1.name≠h2.name
structure bx (hs:List aJ) (ls:List Letter):Prop where
 few:ls.length<=24
 all:∀ l∈ls,ql hs l
 rise:(ls.map Prod.fst).Pairwise (fun a b=>Od a b=true)
end gY
namespace gY
open PySem L2
inductive Da where
 | non | bl (b:Bool) | int (i:Int) | str (z:Str) | tup (xs:List Da) | oth
mutual
inductive bA (H:Hp):V->Da->Prop
 | non:bA H .non .non
 | bl (b:Bool):bA H (.bl b) (.bl b)
 | int (i:Int):bA H (.int i) (.int i)
 | str (z:Str) (h:z.length<=sizeLine):bA H (.str z) (.str z)
 | tup {a:Addr} {vs:List V} {xs:List Da}:H a=some (.tup vs)->vs.length<=25->bH H vs xs->bA H (.ref a) (.tup xs)
 | lst {a:Addr} {vs:List V}:H a=some (.lst vs)->bA H (.ref a) .oth
 | Ow {a:Addr} {kvs:List (Key × V)}:H a=some (.dK kvs)->bA H (.ref a) .oth
inductive bH (H:Hp):List V->List Da->Prop
 | nil:bH H [] []
 | cons {v:V} {vs:List V} {x:Da} {xs:List Da}:bA H v x->bH H vs xs->bH H (v :: vs) (x :: xs)
end
mutual
theorem bA.same {H H':Hp} (s:Same H H'):∀ {v:V} {d:Da},bA H v d->bA H' v d
 | _,_,.non=>.non
 | _,_,.bl b=>.bl b
 | _,_,.int i=>.int i
 | _,_,.str z h=>.str z h
 | _,_,.tup h l r=>.tup (s _ _ h) l (bH.same s r)
 | _,_,.lst h=>.lst (s _ _ h)
 | _,_,.Ow h=>.Ow (s _ _ h)
theorem bH.same {H H':Hp} (s:Same H H'):∀ {v:List V} {d:List Da},bH H v d->bH H' v d
 | _,_,.nil=>.nil
 | _,_,.cons h r=>.cons (bA.same s h) (bH.same s r)
end
theorem bH.len {H:Hp}:∀ {vs:List V} {xs:List Da},bH H vs xs->vs.length=xs.length
 | _,_,.nil=>rfl
 | _,_,.cons _ r=>by rw [List.length_cons,List.length_cons,r.len]
theorem bH.get {H:Hp}:∀ {vs:List V} {xs:List Da},bH H vs xs->∀ {i:Nat} {v:V},vs[i]?=some v->∃ x,xs[i]?=some x/\bA H v x
 | _,_,.nil,i,v,e=>by simp at e
 | _,_,.cons h r,i,v,e=>by
   cases i with
   | zero=>cases (show some _=some v from e); exact ⟨_,rfl,h⟩
   | succ i=>exact r.get (by simpa using e)
theorem bH.inv {H:Hp} {vs:List V} {x:Da} {xs:List Da} (h:bH H vs (x :: xs)):∃ v r,vs=v :: r/\bA H v x/\bH H r xs:=by
 cases h with
 | cons h r=>exact ⟨_,_,rfl,h,r⟩
theorem bH.aeV {H:Hp} {vs:List V} (h:bH H vs []):vs=[]:=by cases h; rfl
theorem bH.aeW {H:Hp} {vs:List V} {a:Da} (h:bH H vs [a]):∃ v1,vs=[v1]/\bA H v1 a:=by
 obtain ⟨v,r,rfl,h1,h2⟩:=h.inv
 obtain rfl:=h2.aeV
 exact ⟨_,rfl,h1⟩
theorem bH.two {H:Hp} {vs:List V} {a b:Da} (h:bH H vs [a,b]):∃ v1 v2,vs=[v1,v2]/\bA H v1 a/\bA H v2 b:=by
 obtain ⟨v,r,rfl,h1,h2⟩:=h.inv
 obtain ⟨w,rfl,h3⟩:=h2.aeW
 exact ⟨_,_,rfl,h1,h3⟩
theorem bH.four {H:Hp} {vs:List V} {a b c d:Da} (h:bH H vs [a,b,c,d]):∃ v1 v2 v3 v4,vs=[v1,v2,v3,v4]/\bA H v1 a/\bA H v2 b/\bA H v3 c/\bA H v4 d:=by
 obtain ⟨v,r,rfl,h1,h2⟩:=h.inv
 obtain ⟨w,r,rfl,h3,h4⟩:=h2.inv
 obtain ⟨x,y,rfl,h5,h6⟩:=h4.two
 exact ⟨_,_,_,_,rfl,h1,h3,h5,h6⟩
theorem bH.five {H:Hp} {vs:List V} {a b c d e:Da} (h:bH H vs [a,b,c,d,e]):∃ v1 v2 v3 v4 v5,vs=[v1,v2,v3,v4,v5]/\bA H v1 a/\bA H v2 b/\bA H v3 c/\bA H v4 d/\bA H v5 e:=by
 obtain ⟨v,r,rfl,h1,h2⟩:=h.inv
 obtain ⟨w,x,y,z,rfl,h3,h4,h5,h6⟩:=h2.four
 exact ⟨_,_,_,_,_,rfl,h1,h3,h4,h5,h6⟩
theorem Ik {n:Nat} {xs:List Da} (h:xs.length=n+1):∃ x r,xs=x :: r/\r.length=n:=by
 cases xs with
 | nil=>cases h
 | cons x r=>exact ⟨x,r,rfl,Nat.succ.inj h⟩
theorem len2 {xs:List Da} (h:xs.length=2):∃ a b,xs=[a,b]:=by
 obtain ⟨a,r1,rfl,h1⟩:=Ik h
 obtain ⟨b,r2,rfl,h2⟩:=Ik h1
 obtain rfl:=List.eq_nil_of_length_eq_zero h2
 exact ⟨a,b,rfl⟩
theorem bA.iw {H:Hp} {v:V} {xs:List Da} (h:bA H v (.tup xs)):∃ a vs,v=.ref a/\H a=some (.tup vs)/\vs.length<=25/\bH H vs xs:=by
 cases h with
 | tup h l r=>exact ⟨_,_,rfl,h,l,r⟩
def Yr:Da->Bool
 | .tup _=>true
 | _=>false
def Ox:Da->Bool
 | .int _=>true
 | _=>false
def Ca:Da->Bool
 | .str z=>BZ (.str z)
 | _=>false
def Fy (d:Da) (n:Nat):Bool:=match d with
 | .tup xs=>decide (xs.length=n)
 | _=>false
def eN:Da->Bool
 | .tup [a,b]=>Ca a && Ox b
 | _=>false
theorem bA.kind {K:PySem.W.Frag} {H:Hp} {v:V} {d:Da} (h:bA H v d):Thing K H v/\(∃ T,jJ K H v (.type T)/\PySem.W.kitOne K (.type T) (.type "tuple")=some (Yr d))/\isW v=Ox d/\BZ v=Ca d:=by
 cases h with
 | non=>exact ⟨⟨⟨_,.non⟩,fun z e=>by cases e⟩,⟨_,.non,(yP (K:=K) (jJ.non (H:=H))).2.2.2⟩,rfl,rfl⟩
 | bl b=>exact ⟨⟨⟨_,.bl b⟩,fun z e=>by cases e⟩,⟨_,.bl b,(yP (K:=K) (jJ.bl (H:=H) b)).2.2.2⟩,rfl,rfl⟩
 | int i=>exact ⟨⟨⟨_,.int i⟩,fun z e=>by cases e⟩,⟨_,.int i,(yP (K:=K) (jJ.int (H:=H) i)).2.2.2⟩,rfl,rfl⟩
 | str z hz=>exact ⟨⟨⟨_,.str z⟩,fun y e=>by cases e; exact hz⟩,⟨_,.str z,(yP (K:=K) (jJ.str (H:=H) z)).2.2.2⟩,rfl,rfl⟩
 | tup e l r=>exact ⟨⟨⟨_,.tup e⟩,fun z e=>by cases e⟩,⟨_,.tup e,(yP (K:=K) (jJ.tup e)).2.2.2⟩,rfl,rfl⟩
 | lst e=>exact ⟨⟨⟨_,.lst e⟩,fun z e=>by cases e⟩,⟨_,.lst e,(yP (K:=K) (jJ.lst e)).2.2.2⟩,rfl,rfl⟩
 | Ow e=>exact ⟨⟨⟨_,.dK e⟩,fun z e=>by cases e⟩,⟨_,.dK e,(yP (K:=K) (jJ.dK e)).2.2.2⟩,rfl,rfl⟩
def spD (f:Da->Bool):Sp:=fun vs H Q _=>∃ (x:V) (d:Da),vs=[x]/\bA H x d/\∀ H',Same H H'->Q (.bl (f d)) H'
def zq:Sp:=fun vs H Q _=>∃ (x:V) (d:Da) (n:Nat),vs=[x,.int (n:Int)]/\bA H x d/\Q (.bl (Fy d n)) H
theorem Cd {K:PySem.W.Frag} {H H':Hp} {a:Addr} {xs:List V} (s:Same H H') (h:dg K H a xs):dg K H' a xs:=by
 rcases h with (h | ⟨o,h⟩) | h
 . exact .inl (.inl (s _ _ h))
 . exact .inl (.inr ⟨o,s _ _ h⟩)
 . exact .inr h
section
variable {P:Program} {w:World} {K:PySem.W.Frag} {mg:Str->Option Value} {base:Heap} {t8 t6 tR tL:Tok}
end
end gY
namespace gY
open PySem L2
section
variable {P:Program} {w:World} {K:PySem.W.Frag} {mg:Str->Option Value} {base:Heap} {t8 t6 tR tL:Tok}
end
end gY
namespace gY
open PySem L2
def oF:Sp:=fun vs H Q _=>∃ (x:V) (h:aJ),vs=[x]/\fj H x h/\cD h/\∀ (l:Addr) (zs:List V) (H':Hp),H l=none->H' l=some (.lst zs)->Same H H'->Paired (dZ H') zs (bL h)->Q (.ref l) H'
def qm:Sp:=fun vs H Q _=>∃ (x:V) (hs:List aJ),vs=[x]/\gJ H x hs/\hs.length<=6/\(∀ h∈hs,cD h)/\∀ (l:Addr) (H':Hp),H l=none->H' l=some (.lst ((namesOf hs).map V.str))->Same H H'->Q (.ref l) H'
theorem qP {α:Type}:∀ {l:List (List α)} {n:Nat},(∀ r∈l,r.length<=n)->l.flatten.length<=l.length * n
 | [],_,_=>by simp
 | r :: l,n,h=>by
   have h1:=h r List.mem_cons_self
   have h2:=qP fun q hq=>h q (List.mem_cons_of_mem _ hq)
   rw [List.flatten_cons,List.length_append,List.length_cons,Nat.succ_mul]
   omega
theorem cD.len {h:aJ} (g:cD h):(bL h).length<=625:=by
 have h1:=qP (n:=25) fun r hr=>(g.runs r hr).few
 have h2:h.runs.length * 25<=25 * 25:=Nat.mul_le_mul_right 25 g.few
 show h.runs.flatten.length<=625
 omega
section
variable {P:Program} {w:World} {K:PySem.W.Frag} {mg:Str->Option Value} {base:Heap} {t8 t6 tR tL:Tok}
end
end gY
namespace gY
open PySem L2
theorem Tr {z:Str} (h:BZ (.str z)=true):Good z:=by
 simp only [BZ,Bool.and_eq_true,decide_eq_true_iff] at h
 exact ⟨h.1.1,h.1.2,fun c hc=>List.all_eq_true.mp h.2 c hc⟩
def oG (h:aJ):List (Str × Str):=(bL h).map fun r=>(r.1,h.name)
def pairsOf (hs:List aJ):List (Str × Str):=hs.flatMap oG
theorem Fz (h:aJ):(oG h).map Prod.fst=aR h:=by unfold oG aR; rw [List.map_map]; rfl
theorem tK (hs:List aJ):(pairsOf hs).map Prod.fst=namesOf hs:=by
 unfold pairsOf namesOf
 rw [List.map_flatMap]
 congr 1
 funext h
 exact Fz h
section
variable {P:Program} {w:World} {K:PySem.W.Frag} {mg:Str->Option Value} {base:Heap} {t8 t6 tR tL:Tok}
end
end gY
namespace gY
open PySem L2
section
variable {P:Program} {w:World} {K:PySem.W.Frag} {mg:Str->Option Value} {base:Heap} {t8 t6 tR tL:Tok}
end
end gY
namespace gY
open PySem L2
open Builtin.Int in
theorem abp {X:Cx}:iD X (binaryOp .Mult) (Mv IntMulOk fun i j=>.int (i * j)):=(Z5 fun _ _ _ _ _ _ _ hc q=>PyProof.Rows.mul_int q hc:iD X (binaryOp .Mult) (rI IntMulOk fun i j=>.int (i * j))).Mv
def Oz (n:Int):Prop:=Builtin.Int.intBits n<=1048576
def zu:Sp:=fun vs H Q _=>∃ c:Int,vs=[.int c]/\Builtin.Int.intBits c<=2000000/\∀ n:Int,0<=n->Q (.int n) H
def bD (H:Hp) (p:Addr):Prop:=∃ n:Int,H p=some (.lst [.int n])/\0<=n
def zx (K:PySem.W.Frag):Sp:=fun vs H Q _=>∃ (a:Addr) (ns:List Int) (k:Int),vs=[.ref a,.int k]/\dg K H a (ns.map V.int)/\(∀ n∈ns,Oz n)/\ns.length<=63/\0<=k/\k<=1000/\∀ (p:Addr) (H':Hp),H p=none->bD H' p->Same H H'->Q (.ref p) H'
def mR:Sp:=fun vs H Q _=>∃ (p:Addr) (m:Int),vs=[.ref p,.int m]/\bD H p/\0<m/\m<1073741824/\∀ (d:Int) (H':Hp),0<=d->d<m->bD H' p->aP p H H'->Q (.int d) H'
section
variable {P:Program} {w:World} {K:PySem.W.Frag} {mg:Str->Option Value} {base:Heap} {t8 t6 tR tL:Tok}
end
end gY
namespace gY
open PySem L2
def OD:List Nat:=(List.range 26).map (97+·)
def OJ (t:Nat):List Nat:=OD.drop t++OD.take t
def qQ (t sz pick k:Nat):List Nat :=
 if pick=0 then List.replicate (1+k % 8) ((OJ t).getD (k / 8) 0) else if pick=1 then (OJ t).getD (k % 26) 0 :: ((OJ t).drop 4).take sz else ((OJ t).drop 4).take sz++[(OJ t).getD (k % 26) 0]
def Il (l:List (List Nat)):Bool:=decide l.Nodup && l.all fun s=>decide (1<=s.length) && decide (s.length<=8) && s.all low
def qL:List Nat:=[113,113,113,113,113,113,113,114]
def qS:Str:=⟨qL.toArray⟩
theorem zy:((List.range 26).all fun t=>(List.range 8).all fun sz=>(List.range 3).all fun pick=>(List.range 12).all fun k=>!decide (qQ t sz pick k=qL))=true:=by decide +kernel
theorem Ce:((List.range 26).all fun t=>(List.range 8).all fun sz=>(List.range 3).all fun pick=>Il ((List.range 12).map (qQ t sz pick)))=true:=by decide +kernel
def nameS (t sz pick k:Nat):Str:=⟨(qQ t sz pick k).toArray⟩
def fK (t sz pick:Nat):List Str:=(List.range 12).map (nameS t sz pick)
theorem Kz {t sz pick:Nat} (ht:t<26) (hz:sz<8) (hp:pick<3):(fK t sz pick).Nodup/\∀ s∈fK t sz pick,Good s:=by
 have h:=List.all_eq_true.mp (List.all_eq_true.mp (List.all_eq_true.mp Ce t (List.mem_range.mpr ht)) sz (List.mem_range.mpr hz)) pick (List.mem_range.mpr hp)
 unfold Il at h
 obtain ⟨h1,h2⟩:=Bool.and_eq_true_iff.mp h
 have h1':=of_decide_eq_true h1
 constructor
 . unfold fK
   rw [List.nodup_iff_pairwise_ne,List.pairwise_map] at h1' ⊢
   refine h1'.imp fun {a b} z e=>z ?_
   have:=congrArg (fun s:Str=>s.cps.toList) e
   simpa [nameS] using this
 . intro s hs
   obtain ⟨k,hk,rfl⟩:=List.mem_map.mp hs
   have h3:=List.all_eq_true.mp h2 (qQ t sz pick k) (List.mem_map.mpr ⟨k,hk,rfl⟩)
   obtain ⟨h4,h5⟩:=Bool.and_eq_true_iff.mp h3
   obtain ⟨h6,h7⟩:=Bool.and_eq_true_iff.mp h4
   refine ⟨?_,?_,fun c hc=>List.all_eq_true.mp h5 c (by simpa [nameS] using hc)⟩
   . have:=of_decide_eq_true h6; simpa [nameS,Str.length] using this
   . have:=of_decide_eq_true h7; simpa [nameS,Str.length] using this
theorem O1 {t sz pick:Nat} (ht:t<26) (hz:sz<8) (hp:pick<3):∀ s∈fK t sz pick,s≠qS:=by
 intro s hs e
 obtain ⟨k,hk,rfl⟩:=List.mem_map.mp hs
 have h:=List.all_eq_true.mp (List.all_eq_true.mp (List.all_eq_true.mp (List.all_eq_true.mp zy t (List.mem_range.mpr ht)) sz (List.mem_range.mpr hz)) pick (List.mem_range.mpr hp)) k hk
 have:=congrArg (fun s:Str=>s.cps.toList) e
 have e2:qQ t sz pick k=qL:=by simpa [nameS,qS] using this
 rw [e2] at h
 exact absurd h (by decide)
def abc:Str:="abcdefghijklmnopqrstuvwxyz"
theorem Ys:abc.cps.toList=OD:=by decide +kernel
theorem uE {t:Nat} (h:t<=26):(OJ t).length=26:=by
 unfold OJ
 rw [List.length_append,List.length_drop,List.length_take,show OD.length=26 by decide]
 omega
theorem zA:abc.length=26:=by decide +kernel
theorem O2 {t:Nat} (ht:t<=26):(PySem.Txt.slice abc (some (t:Int)) none++PySem.Txt.slice abc none (some (t:Int))).cps.toList=OJ t:=by
 rw [app_list,NP,uY]
 unfold NK OJ
 rw [HT.iJ,HT.jz,zA,Ys,Nat.min_eq_left ht,List.take_of_length_le (by rw [List.length_drop,show OD.length=26 by decide]; omega)]
theorem vp {l:List Nat} {k:Int} (h0:0<=k) (h1:k<l.length):yH l k=some (l.getD k.toNat 0):=by
 obtain ⟨n,rfl⟩:=Int.eq_ofNat_of_zero_le h0
 refine gQ ?_
 have hn:n<l.length:=by omega
 rw [List.getElem?_eq_getElem hn]
 simp [List.getD,hn]
def zB:Sp:=fun vs H Q _=>∃ (p:Addr),vs=[.ref p,.int 12]/\bD H p/\∀ (l:Addr) (ss:List Str) (H':Hp),H l=none->H' l=some (.lst (ss.map V.str))->ss.length=12->ss.Nodup->(∀ s∈ss,Good s)->(∀ s∈ss,s≠qS)->bD H' p->aP p H H'->Q (.ref l) H'
section
variable {P:Program} {w:World} {K:PySem.W.Frag} {mg:Str->Option Value} {base:Heap} {t8 t6 tR tL:Tok}
end
end gY
namespace gY
open PySem L2
def KC (r:Row):PyData:=.tuple [.str r.1,.int r.2]
def vq (rs:List Row):PyData:=.list (rs.map KC)
theorem Good.ok {z:Str} (g:Good z):PyData.strOk z=true:=by
 unfold PyData.strOk
 rw [Array.all_eq_true_iff_forall_mem]
 intro c hc
 have h:=g.all c (by simpa using hc)
 unfold low at h
 have h2:=of_decide_eq_true (Bool.and_eq_true_iff.mp h).2
 exact decide_eq_true (by omega)
theorem Cg:∀ {rs:List Row},(∀ r∈rs,Good r.1)->SeqAt.shaped (vq rs)=true:=by
 intro rs h
 have h1:PyData.canLayAll0 (rs.map KC)=true:=by
   induction rs with
   | nil=>rfl
   | cons r rs ih =>
     rw [List.map_cons]
     unfold PyData.canLayAll0
     rw [ih fun q hq=>h q (List.mem_cons_of_mem _ hq),Bool.and_true]
     unfold KC PyData.canLay0 PyData.canLayAll0
     have z:=(h r List.mem_cons_self).ok
     simp [PyData.canLay0,PyData.canLayAll0,z]
 have h2:PyData.depthAll (rs.map KC)<=1:=by
   clear h h1
   induction rs with
   | nil=>exact Nat.zero_le _
   | cons r rs ih =>
     rw [List.map_cons]
     unfold PyData.depthAll
     have e:PyData.depth (KC r)=1:=by simp [KC,PyData.depth,PyData.depthAll]
     rw [e]
     omega
 unfold SeqAt.shaped vq
 rw [Bool.and_eq_true]
 refine ⟨?_,?_⟩
 . unfold PyData.canLay0; exact h1
 . unfold PyData.depth; exact decide_eq_true (by omega)
theorem Tt {K:PySem.W.Frag} {H:Hp} {a:Addr} {vs:List V} {rs:List Row} (ha:H a=some (.lst vs)) (p:Paired (dZ H) vs rs):Dp K H (.ref a) (vq rs):=by
 refine .lst (dg.of ha) ?_
 clear ha
 induction p with
 | nil=>exact .nil
 | cons h _ ih =>
   obtain ⟨b,rfl,hb⟩:=h
   exact .cons (.tup (bM.of hb) (.cons (.str _) (.cons (.int _) .nil))) ih
theorem O4 (rs:List Row):PyData.eqv (vq rs) (.list [])=rs.isEmpty:=by
 cases rs with
 | nil=>simp [vq,PyData.eqv,PyData.eqvAll]
 | cons r rs=>simp [vq,PyData.eqv,PyData.eqvAll]
structure V7 (K:PySem.W.Frag) (x y:V) (H:Hp) (Q:VK):Prop where
 h:aa5 K x y H Q
theorem FJ {X:Cx} (hu:X.A.units+64<cLine):iD X (compareOp .NotEq) (V7 X.K):=fun pins s σ H x y v u Q I rx ry h=>XH hu pins s σ H x y v u Q I rx ry h.h
theorem O5 {K:PySem.W.Frag} {H:Hp} {a l:Addr} {vs:List V} {rs:List Row} {Q:VK} (ha:H a=some (.lst vs)) (p:Paired (dZ H) vs rs) (g:∀ r∈rs,Good r.1) (hl:H l=some (.lst [])) (q:Q (.bl (!rs.isEmpty)) H):V7 K (.ref a) (.ref l) H Q :=
 ⟨vq rs,.list [],Tt ha p,.lst (dg.of hl) .nil,Cg g,rfl,by rw [O4]; exact q⟩
theorem Ci {α:Type} {xs:List α} {x:α}:yH (xs++[x]) (-1)=some x:=by
 unfold yH R4
 have e:(xs++[x]).length=xs.length+1:=by simp
 rw [e,if_neg (by decide),if_pos (by omega)]
 have e2:((-1:Int)+((xs.length+1:Nat):Int)).toNat=xs.length:=by omega
 rw [e2]
 simp
structure HS (H0:Hp) (p R D:Addr) (ss:List Str) (room:Int) (H:Hp) (vr:List V) (kvs:List (Key × V)) (runs:List (List Row)) (m:Nat):Prop where
 pack:bD H p
 same:aP p H0 H
 hR:H R=some (.lst vr)
 pR:Paired (gH H) vr runs
 hD:H D=some (.dK kvs)
 keys:kvs.map (·.1)=(ss.take m).map Sum.inr
 vals:∀ n∈ss.take m,∃ i:Int,dW kvs (.inr n)=some (.int i)
 le:m<=ss.length
 rm:(m:Int)<=room∨m=0
 good:∀ r∈runs,pF r
theorem aP.tups {p:Addr} {H H':Hp} (hp:bD H p) (s:aP p H H'):dX H H':=fun b xs e=>s b _ (fun z=>by obtain ⟨n,e',_⟩:=hp; rw [z,e'] at e; cases e) e
section
variable {H0 H H':Hp} {p R D:Addr} {ss:List Str} {room:Int} {vr:List V} {kvs:List (Key × V)} {runs:List (List Row)} {m:Nat}
theorem HS.step (h:HS H0 p R D ss room H vr kvs runs m) (nR:R≠p) (nD:D≠p) (pk:bD H' p) (s:aP p H H'):HS H0 p R D ss room H' vr kvs runs m :=
 ⟨pk,h.same.trans s,s _ _ nR h.hR,aO (fun _ _ z=>z.ts (aP.tups h.pack s)) h.pR,s _ _ nD h.hD,h.keys,h.vals,h.le,h.rm,h.good⟩
theorem bD.new {q:Addr} {o:HO} (h:bD H p) (hq:H q=none):bD (upd H q o) p:=by
 obtain ⟨n,e,n0⟩:=h
 exact ⟨n,by rw [aL (aN e hq)]; exact e,n0⟩
theorem bD.put {q:Addr} {o:HO} (h:bD H p) (hq:q≠p):bD (upd H q o) p:=by
 obtain ⟨n,e,n0⟩:=h
 exact ⟨n,by rw [aL (Ne.symm hq)]; exact e,n0⟩
theorem HS.new {q:Addr} {o:HO} (h:HS H0 p R D ss room H vr kvs runs m) (nR:R≠p) (nD:D≠p) (hq:H q=none):HS H0 p R D ss room (upd H q o) vr kvs runs m :=
 h.step nR nD (h.pack.new hq) ((aP.of (Same.refl H)).new hq)
theorem qR {kvs:List (Key × V)} {k:Key} {v:V} (h:k ∉ kvs.map (·.1)):putK kvs k v=kvs++[(k,v)]:=by
 unfold putK
 rw [if_neg]
 intro z
 obtain ⟨x,hx,e⟩:=List.any_eq_true.mp z
 exact h (List.mem_map.mpr ⟨x,hx,of_decide_eq_true e⟩)
theorem vA {n:Str} (hm:ss[m]?=some n):ss.take (m+1)=ss.take m++[n]:=by rw [List.take_add_one,hm]; rfl
theorem pG {n:Str} (nd:ss.Nodup) (hm:ss[m]?=some n):n ∉ ss.take m:=fun z=>by
 obtain ⟨j,hj,ej⟩:=List.mem_iff_getElem.mp z
 obtain ⟨hl,el⟩:=List.getElem?_eq_some_iff.mp hm
 rw [List.length_take] at hj
 rw [List.getElem_take] at ej
 have:=(List.getElem_inj (i:=j) (j:=m) (h₀:=by omega) (h₁:=hl) nd).mp (ej.trans el.symm)
 omega
theorem HS.put {L tp:Addr} {vl:List V} {rs:List Row} {n:Str} {mo rd:Int} (h:HS H0 p R D ss room H vr kvs runs m) (nR:R≠p) (nD:D≠p) (nRD:R≠D) (nL:L≠p) (nLR:L≠R) (nLD:L≠D) (f0:H0 D=none) (fL:H0 L=none)
   (nd:ss.Nodup) (hm:ss[m]?=some n) (hr:(m:Int)<room) (hL:H L=some (.lst vl)) (pl:Paired (dZ H) vl rs) (ht:upd H D (.dK (putK kvs (.inr n) (.int mo))) tp=none) :
   HS H0 p R D ss room (upd (upd (upd H D (.dK (putK kvs (.inr n) (.int mo)))) tp (.tup [.str n,.int rd])) L (.lst (vl++[.ref tp]))) vr (putK kvs (.inr n) (.int mo)) runs (m+1) /\
   Paired (dZ (upd (upd (upd H D (.dK (putK kvs (.inr n) (.int mo)))) tp (.tup [.str n,.int rd])) L (.lst (vl++[.ref tp])))) (vl++[.ref tp]) (rs++[(n,rd)]):=by
 have t1:dX H (upd H D (.dK (putK kvs (.inr n) (.int mo)))):=(dX.refl H).put h.hD (fun _ z=>nomatch z)
 have t2:dX H (upd (upd H D (.dK (putK kvs (.inr n) (.int mo)))) tp (.tup [.str n,.int rd])):=t1.new ht
 have hL1:upd H D (.dK (putK kvs (.inr n) (.int mo))) L=some (.lst vl):=by rw [aL nLD]; exact hL
 have nLt:L≠tp:=aN hL1 ht
 have hL2:upd (upd H D (.dK (putK kvs (.inr n) (.int mo)))) tp (.tup [.str n,.int rd]) L=some (.lst vl):=by rw [aL nLt]; exact hL1
 have t3:=t2.put (o:=.lst (vl++[.ref tp])) hL2 (fun _ z=>nomatch z)
 have hle:m<ss.length:=(List.getElem?_eq_some_iff.mp hm).1
 have aeZ:(Sum.inr n:Key) ∉ kvs.map (·.1):=fun z=>by
   rw [h.keys] at z
   obtain ⟨y,hy,e⟩:=List.mem_map.mp z
   exact pG nd hm (by rw [<- Sum.inr.inj e]; exact hy)
 refine ⟨⟨((h.pack.put nD).new ht).put nL,?_,?_,aO (fun _ _ z=>z.ts t3) h.pR,?_,?_,?_,hle,.inl (by omega),h.good⟩,?_⟩
 . intro b o hb e
   have n1:b≠D:=aN e f0
   have n2:b≠L:=aN e fL
   have e1:upd H D (.dK (putK kvs (.inr n) (.int mo))) b=some o:=by rw [aL n1]; exact h.same b o hb e
   rw [aL n2,aL (aN e1 ht)]
   exact e1
 . have e1:upd H D (.dK (putK kvs (.inr n) (.int mo))) R=some (.lst vr):=by rw [aL nRD]; exact h.hR
   rw [aL (Ne.symm nLR),aL (aN e1 ht)]
   exact e1
 . have e1:upd H D (.dK (putK kvs (.inr n) (.int mo))) D=some (.dK (putK kvs (.inr n) (.int mo))):=aq
   rw [aL (Ne.symm nLD),aL (aN e1 ht)]
   exact e1
 . rw [qR aeZ,List.map_append,h.keys,vA hm,List.map_append]; rfl
 . intro x hx
   rw [vA hm] at hx
   rw [qJ]
   by_cases e:(Sum.inr x:Key)=Sum.inr n
   . exact ⟨mo,if_pos e⟩
   . rw [if_neg e]
     rcases List.mem_append.mp hx with z | z
     . exact h.vals x z
     . exact absurd (by rw [List.mem_singleton.mp z]) e
 . refine fJ (aO (fun _ _ z=>z.ts t3) pl) (.cons ⟨tp,rfl,?_⟩ .nil)
   rw [aL (Ne.symm nLt),aq]
end
theorem KD {rs:List Row} {n:Str} {rd:Int} (h:(rs.map Prod.snd).Pairwise (·<·)) (g:∀ r∈rs,r.2<rd):((rs++[(n,rd)]).map Prod.snd).Pairwise (·<·):=by
 rw [List.map_append,List.pairwise_append]
 refine ⟨h,List.pairwise_singleton _ _,fun a ha b hb=>?_⟩
 obtain ⟨r,hr,rfl⟩:=List.mem_map.mp ha
 have e:b=rd:=by simpa using hb
 rw [e]; exact g r hr
theorem V8 {a b c e d:Int} (h0:0<=d) (h4:d<4) (ha:0<=a/\a<=300) (hb:0<=b/\b<=300) (hc:0<=c/\c<=300) (he:0<=e/\e<=300):∃ w:Int,yH [V.int a,.int b,.int c,.int e] d=some (.int w)/\0<=w/\w<=300:=by
 obtain ⟨n,rfl⟩:=Int.eq_ofNat_of_zero_le h0
 match n,h4 with
 | 0,_=>exact ⟨a,rfl,ha⟩
 | 1,_=>exact ⟨b,rfl,hb⟩
 | 2,_=>exact ⟨c,rfl,hc⟩
 | 3,_=>exact ⟨e,rfl,he⟩
 | n+4,h=>exact absurd h (by omega)
def NvR (p ln R D L:Addr) (nm:Str) (room low wide aK FN mo:Int) (m:Nat) (x11 x14:V) (H:Hp) (ss:List Str) (vr vl:List V) (kvs:List (Key × V)) (runs:List (List Row)) (rs:List Row) (F:Int->Prop):St->Hp->Prop:=fun σ' H'=>∃ rd:Int,σ'=[some (.ref p),some (.str nm),some (.ref ln),some (.int room),some (.int low),some (.int wide),some (.int aK),some (.int mo),some (.ref R),some (.ref D),some (.int (m:Int)),some x11,some (.int (low+FN)),some (.ref L),some x14,some (.int rd)]/\HS H p R D ss room H' vr kvs runs m/\H' L=some (.lst vl)/\Paired (dZ H') vl rs/\F rd
section
variable {P:Program} {w:World} {K:PySem.W.Frag} {mg:Str->Option Value} {base:Heap} {t8 t6 tR tL:Tok}
end
end gY
namespace gY
open PySem L2
theorem ae0 {X:Cx}:iD X (compareOp .NotEq) (fS fun i j=>.bl (!decide (i=j))):=by
 intro pins s σ H x y v u Q I rx ry q
 refine Hv pins s σ H x y v u Q I rx ry ?_
 cases x <;> cases y <;> first
   | exact (show False from q).elim
   | (refine ⟨rfl,?_⟩
      rename_i i j
      have e:decide (V.str i=V.str j)=decide (i=j):=by rw [Bool.eq_iff_iff]; simp
      rw [e]; exact q)
theorem O6 {κ:Type} [DecidableEq κ] {kvs:List (κ × V)} {k:κ} {v:V} {x:κ × V} (h:x∈putK kvs k v):x=(k,v)∨x∈kvs:=by
 unfold putK at h
 split at h
 . obtain ⟨y,hy,e⟩:=List.mem_map.mp h
   split at e
   . rename_i c
     exact .inl (by rw [<- e,c])
   . exact .inr (by rw [<- e]; exact hy)
 . rcases List.mem_append.mp h with z | z
   . exact .inr z
   . exact .inl (List.mem_singleton.mp z)
theorem O7 {κ:Type} [DecidableEq κ] {kvs:List (κ × V)} {k:κ} (h:k∈kvs.map (·.1)):∃ v,dW kvs k=some v/\(k,v)∈kvs:=by
 induction kvs with
 | nil=>simp at h
 | cons x r ih =>
   by_cases e:x.1=k
   . refine ⟨x.2,fU e,?_⟩
     rw [<- e]; exact List.mem_cons_self
   . rw [List.map_cons] at h
     rcases List.mem_cons.mp h with z | z
     . exact absurd z.symm e
     . obtain ⟨v,h1,h2⟩:=ih z
       exact ⟨v,by rw [fV e]; exact h1,List.mem_cons_of_mem _ h2⟩
def pX (kvs:List (Key × V)) (ps:List (Str × Str)):Prop:=∀ p∈ps,dW kvs (.inr p.1)=some (.str p.2)
theorem pX.put {kvs:List (Key × V)} {ps:List (Str × Str)} {p:Str × Str} (h:pX kvs ps) (n:∀ q∈ps,q.1≠p.1):pX (putK kvs (.inr p.1) (.str p.2)) (ps++[p]):=fun q hq=>by
 rw [qJ]
 rcases List.mem_append.mp hq with z | z
 . rw [if_neg (fun e=>n q z (Sum.inr.inj e))]; exact h q z
 . rw [List.mem_singleton.mp z,if_pos rfl]
def uF (hs:List aJ) (H:Hp) (kf:List (List Key × V)):Prop:=∀ kv∈kf,∃ l:Letter,kv.1=kP l.1/\fu H kv.2 l/\ql hs l
theorem uF.keys {hs:List aJ} {H:Hp}:∀ {kf:List (List Key × V)},uF hs H kf->∃ ks:List (Str × Str),kf.map (·.1)=ks.map kP/\ks.length=kf.length
 | [],_=>⟨[],rfl,rfl⟩
 | kv :: r,h=>by
   obtain ⟨l,e,_⟩:=h kv List.mem_cons_self
   obtain ⟨ks,e2,e3⟩:=uF.keys (kf:=r) fun x hx=>h x (List.mem_cons_of_mem _ hx)
   exact ⟨l.1 :: ks,by rw [List.map_cons,List.map_cons,e,e2],by simp [e3]⟩
def eU (nm:Str) (r:List Row):List (Str × Str):=r.map fun x=>(x.1,nm)
theorem tM (h:aJ):oG h=h.runs.flatMap (eU h.name):=by
 unfold oG bL eU
 rw [List.map_flatten,List.flatMap_def]
theorem Cj {hs:List aJ} {kvs:List (Key × V)} {n:Str} (ow:pX kvs (pairsOf hs)) (h:n∈namesOf hs):∃ hh∈hs,n∈aR hh/\dW kvs (.inr n)=some (.str hh.name):=by
 obtain ⟨hh,m,hn⟩:=List.mem_flatMap.mp h
 refine ⟨hh,m,hn,ow (n,hh.name) (List.mem_flatMap.mpr ⟨hh,m,?_⟩)⟩
 obtain ⟨r,hr,er⟩:=List.mem_map.mp hn
 exact List.mem_map.mpr ⟨r,hr,by rw [er]⟩
theorem vB {hs:List aJ} (g:∀ h∈hs,cD h) {n:Str} (h:n∈namesOf hs):Good n:=by
 obtain ⟨hh,m,hn⟩:=List.mem_flatMap.mp h
 obtain ⟨r,hr,er⟩:=List.mem_map.mp hn
 obtain ⟨run,hrun,hr2⟩:=List.mem_flatten.mp hr
 rw [<- er]
 exact ((g hh m).runs run hrun).names r hr2
def PvC (p lh dh O:Addr) (hs:List aJ) (H:Hp):Nat->St->Hp->Prop:=fun i σ H'=>∃ (kv:List (Key × V)) (o4 o5 o6 o7:Option V),σ=[some (.ref p),some (.ref lh),some (.ref dh),some (.ref O),o4,o5,o6,o7,none,none,none,none,none,none,none,none]/\H' O=some (.dK kv)/\pX kv (pairsOf (hs.take i))/\kv.length<=(pairsOf (hs.take i)).length/\Same H H'
def PvD (p lh dh O a:Addr) (hs:List aJ) (hh:aJ) (i:Nat) (H:Hp):Nat->St->Hp->Prop:=fun j σ H'=>∃ (kv:List (Key × V)) (o5 o6 o7:Option V),σ=[some (.ref p),some (.ref lh),some (.ref dh),some (.ref O),some (.ref a),o5,o6,o7,none,none,none,none,none,none,none,none]/\H' O=some (.dK kv)/\pX kv (pairsOf (hs.take i)++(hh.runs.take j).flatMap (eU hh.name))/\kv.length<=(pairsOf (hs.take i)++(hh.runs.take j).flatMap (eU hh.name)).length/\Same H H'
def PvE (p lh dh O a c2:Addr) (hs:List aJ) (hh:aJ) (i j:Nat) (r:List Row) (H:Hp):Nat->St->Hp->Prop:=fun t σ H'=>∃ (kv:List (Key × V)) (o6 o7:Option V),σ=[some (.ref p),some (.ref lh),some (.ref dh),some (.ref O),some (.ref a),some (.ref c2),o6,o7,none,none,none,none,none,none,none,none]/\H' O=some (.dK kv)/\pX kv (pairsOf (hs.take i)++(hh.runs.take j).flatMap (eU hh.name)++(eU hh.name r).take t)/\kv.length<=(pairsOf (hs.take i)++(hh.runs.take j).flatMap (eU hh.name)++(eU hh.name r).take t).length/\Same H H'
section
variable {P:Program} {w:World} {K:PySem.W.Frag} {mg:Str->Option Value} {base:Heap} {t8 t6 tR tL:Tok}
end
end gY
namespace gY
open PySem L2
def O8:List Str:=["me","you","abcdefgh","z"]
theorem Tv:∀ s∈O8,Good s:=by
 have h:O8.all (fun s=>decide (1<=s.length) && decide (s.length<=8) && s.cps.toList.all low)=true:=by decide +kernel
 intro s hs
 obtain ⟨h1,h2⟩:=Bool.and_eq_true_iff.mp (List.all_eq_true.mp h s hs)
 obtain ⟨h3,h4⟩:=Bool.and_eq_true_iff.mp h1
 exact ⟨of_decide_eq_true h3,of_decide_eq_true h4,fun c hc=>List.all_eq_true.mp h2 c hc⟩
theorem O9:O8.Nodup:=by decide +kernel
theorem qT {p:Addr} {H Ha Hb:Hp} (s:Same H Ha) (n:H p=none) (b:aP p Ha Hb):Same H Hb:=fun c o e=>b c o (fun z=>by rw [z,n] at e; cases e) (s c o e)
theorem qp:∀ (more kvs:List (Key × V)),(more.map (·.1)).Nodup->(∀ k∈more.map (·.1),k ∉ kvs.map (·.1))->gA kvs more=kvs++more
 | [],kvs,_,_=>by rw [List.append_nil]; rfl
 | x :: r,kvs,nd,dj=>by
   rw [List.map_cons] at nd dj
   have nd':=List.nodup_cons.mp nd
   show gA (putK kvs x.1 x.2) r=_
   rw [qR (dj x.1 List.mem_cons_self),qp r _ nd'.2,List.append_assoc]
   . rfl
   . intro k hk z
     rw [List.map_append] at z
     rcases List.mem_append.mp z with z | z
     . exact dj k (List.mem_cons_of_mem _ hk) z
     . have:k=x.1:=by simpa using z
       exact nd'.1 (by rw [<- this]; exact hk)
theorem vC {kvs more:List (Key × V)} {k:Key}:dW (kvs++more) k=(dW kvs k).or (dW more k):=by
 unfold dW
 rw [List.find?_append]
 cases kvs.find? (fun kv=>decide (kv.1=k)) <;> rfl
theorem xR {kvs:List (Key × V)} {k:Key} (h:k ∉ kvs.map (·.1)):dW kvs k=none:=by
 cases e:dW kvs k with
 | none=>rfl
 | some v=>exact absurd (Sg e) h
def FP:Sp:=fun vs H Q _=>∃ (x:V) (hs:List aJ) (ls:List Letter),vs=[x]/\cU H x hs ls/\bw hs/\∀ (l:Addr) (ss:List Str) (H':Hp),H' l=some (.lst (ss.map V.str))->Same H H'->ss.Perm (namesOf hs)->PyProof.Rows.sortedS ss=true->Q (.ref l) H'
section
variable {P:Program} {w:World} {K:PySem.W.Frag} {mg:Str->Option Value} {base:Heap} {t8 t6 tR tL:Tok}
end
end gY
namespace gY
open PySem L2
def gK (r:Row):Da:=.tup [.str r.1,.int r.2]
def jF (rs:List Row):Da:=.tup (rs.map gK)
def FQ (rs:List (List Row)):Da:=.tup (rs.map jF)
def jK (h:aJ):Da:=.tup [.str h.name,.int h.low,.int h.high,.int h.aK,FQ h.runs]
def lK (hs:List aJ):Da:=.tup (hs.map jK)
def FT:Option Int->Da
 | none=>.non
 | some i=>.int i
def lM (l:Letter):Da:=.tup [.str l.1.1,.str l.1.2,.int l.2.1,FT l.2.2]
def jN (ls:List Letter):Da:=.tup (ls.map lM)
theorem Good.da {H:Hp} {z:Str} (g:Good z):bA H (.str z) (.str z):=.str z (by have:=g.hi; have mJ:sizeLine=16777216:=sizeLine_eq; omega)
theorem lN {α:Type} {H:Hp} {R:V->α->Prop} {f:α->Da} {vs:List V} {xs:List α} (p:Paired R vs xs) (h:∀ v x,x∈xs->R v x->bA H v (f x)):bH H vs (xs.map f):=by
 induction p with
 | nil=>exact .nil
 | cons r _ ih=>exact .cons (h _ _ (List.mem_cons_self ..) r) (ih fun v x hx=>h v x (List.mem_cons_of_mem _ hx))
section
variable {H:Hp} {v:V}
theorem dZ.da {r:Row} (h:dZ H v r) (g:Good r.1):bA H v (gK r):=by
 obtain ⟨a,rfl,e⟩:=h
 exact .tup e (show 2<=25 by decide) (.cons g.da (.cons (.int _) .nil))
theorem gH.da {r:List Row} (h:gH H v r) (g:pF r):bA H v (jF r):=by
 obtain ⟨a,vs,rfl,e,p⟩:=h
 exact .tup e (by rw [p.length]; exact g.few) (lN p fun v x hx q=>q.da (g.names x hx))
theorem lA.da {rs:List (List Row)} (h:lA H v rs) (few:rs.length<=25) (g:∀ r∈rs,pF r):bA H v (FQ rs):=by
 obtain ⟨a,vs,rfl,e,p⟩:=h
 exact .tup e (by rw [p.length]; exact few) (lN p fun v x hx q=>q.da (g x hx))
theorem fj.da {h:aJ} (a:fj H v h) (g:cD h):bA H v (jK h):=by
 obtain ⟨a,b,rfl,e,p⟩:=a
 exact .tup e (show 5<=25 by decide) (.cons g.name.da (.cons (.int _) (.cons (.int _) (.cons (.int _) (.cons (p.da g.few g.runs) .nil)))))
theorem gJ.da {hs:List aJ} (a:gJ H v hs) (few:hs.length<=25) (g:∀ h∈hs,cD h):bA H v (lK hs):=by
 obtain ⟨a,vs,rfl,e,p⟩:=a
 exact .tup e (by rw [p.length]; exact few) (lN p fun v x hx q=>q.da (g x hx))
theorem Tw {m:Option Int}:bA H (oE m) (FT m):=by
 cases m with
 | none=>exact .non
 | some i=>exact .int i
theorem fu.da {l:Letter} (h:fu H v l) (g1:Good l.1.1) (g2:Good l.1.2):bA H v (lM l):=by
 obtain ⟨a,rfl,e⟩:=h
 exact .tup e (show 4<=25 by decide) (.cons g1.da (.cons g2.da (.cons (.int _) (.cons Tw .nil))))
theorem fW.da {ls:List Letter} (h:fW H v ls) (few:ls.length<=25) (g:∀ l∈ls,Good l.1.1/\Good l.1.2):bA H v (jN ls):=by
 obtain ⟨a,vs,rfl,e,p⟩:=h
 exact .tup e (by rw [p.length]; exact few) (lN p fun v x hx q=>q.da (g x hx).1 (g x hx).2)
end
theorem Pa {r:Row} (g:Good r.1):eN (gK r)=true:=by
 show (Ca (.str r.1) && Ox (.int r.2))=true
 rw [show Ca (.str r.1)=true from g.BZ]
 rfl
theorem cU.da {H:Hp} {v:V} {hs:List aJ} {ls:List Letter} (h:cU H v hs ls) (gh:bw hs) (g:bx hs ls):bA H v (.tup [lK hs,jN ls]):=by
 obtain ⟨a,x,y,rfl,e,h1,h2⟩:=h
 exact .tup e (show 2<=25 by decide) (.cons (h1.da (by have:=gh.hi; omega) gh.all) (.cons (h2.da (by have:=g.few; omega) fun l hl=>⟨(g.all l hl).sent,(g.all l hl).taken⟩) .nil))
end gY
namespace gY
open PySem L2
structure TD (te:TE) (σ:St) (H:Hp) (d:Da):Prop where
 r:∀ H1,Same H H1->∀ Q:VK,(∀ v H2,Same H1 H2->bA H2 v d->Q v H2)->te σ H1 Q
theorem TD.use {te:TE} {σ:St} {H:Hp} {d:Da} (h:TD te σ H d) {H1:Hp} (s:Same H H1) {Q:VK} (q:∀ v H2,Same H1 H2->bA H2 v d->Q v H2):te σ H1 Q:=h.r H1 s Q q
structure KH (ta:TA) (σ:St) (H:Hp) (ds:List Da):Prop where
 r:∀ H1,Same H H1->∀ Q:List V->Hp->Prop,(∀ vs H2,Same H1 H2->bH H2 vs ds->Q vs H2)->ta σ H1 Q
structure TPo (tl:TO) (σ:St) (H:Hp) (o:Option Int):Prop where
 r:∀ H1,Same H H1->∀ Q:Option Int->Hp->Prop,(∀ H2,Same H1 H2->Q o H2)->tl σ H1 Q
theorem bH.app {H:Hp}:∀ {vs ws:List V} {xs ys:List Da},bH H vs xs->bH H ws ys->bH H (vs++ws) (xs++ys)
 | _,_,_,_,.nil,q=>q
 | _,_,_,_,.cons h r,q=>.cons h (bH.app r q)
theorem bH.V9 {H:Hp}:∀ {vs:List V} {xs:List Da} (n:Nat),bH H vs xs->bH H (vs.take n) (xs.take n)
 | _,_,0,_=>by rw [List.take_zero,List.take_zero]; exact .nil
 | _,_,n+1,.nil=>.nil
 | _,_,n+1,.cons h r=>.cons h (bH.V9 n r)
theorem bH.Wa {H:Hp}:∀ {vs:List V} {xs:List Da} (n:Nat),bH H vs xs->bH H (vs.drop n) (xs.drop n)
 | _,_,0,h=>by rw [List.drop_zero,List.drop_zero]; exact h
 | _,_,n+1,.nil=>.nil
 | _,_,n+1,.cons h r=>bH.Wa n r
theorem bH.rev {H:Hp}:∀ {vs:List V} {xs:List Da},bH H vs xs->bH H vs.reverse xs.reverse
 | _,_,.nil=>.nil
 | _,_,.cons h r=>by rw [List.reverse_cons,List.reverse_cons]; exact bH.app (bH.rev r) (.cons h .nil)
section
variable {σ:St} {H:Hp} {te ta tb:TE} {ts:TA} {d:Da} {ds xs ys:List Da} {i j:Int} {tl th:TO} {lo hi:Option Int} {K:PySem.W.Frag}
theorem dY:TD (tC (.int i)) σ H (.int i):=⟨fun H1 _ _ q=>q _ H1 (Same.refl _) (.int i)⟩
theorem Pb {b:Bool}:TD (tC (.bl b)) σ H (.bl b):=⟨fun H1 _ _ q=>q _ H1 (Same.refl _) (.bl b)⟩
theorem vD:TD (tC .non) σ H .non:=⟨fun H1 _ _ q=>q _ H1 (Same.refl _) .non⟩
theorem jh {z:Str} (h:z.length<=1000):TD (tC (.str z)) σ H (.str z):=⟨fun H1 _ _ q=>q _ H1 (Same.refl _) (.str z (by have mJ:sizeLine=16777216:=sizeLine_eq; omega))⟩
theorem oH {k:Nat} {v:V} (e:σ[k]?=some (some v)) (h:bA H v d):TD (tV k) σ H d:=⟨fun H1 s Q q=>by
 unfold tV
 rw [e]
 exact q v H1 (Same.refl _) (h.same s)⟩
theorem jU {v:V} {r:St} (h:bA H v d):TD (tV 0) (some v :: r) H d:=oH rfl h
theorem qU {v:V} {r:St} {o0 o1:Option V} (h:bA H v d):TD (tV 2) (o0 :: o1 :: some v :: r) H d:=oH rfl h
theorem qW {v:V} {r:St} {o0 o1 o2:Option V} (h:bA H v d):TD (tV 3) (o0 :: o1 :: o2 :: some v :: r) H d:=oH rfl h
theorem Ck {v:V} {r:St} {o0 o1 o2 o3:Option V} (h:bA H v d):TD (tV 4) (o0 :: o1 :: o2 :: o3 :: some v :: r) H d:=oH rfl h
theorem Cm {v:V} {r:St} {o0 o1 o2 o3 o4:Option V} (h:bA H v d):TD (tV 5) (o0 :: o1 :: o2 :: o3 :: o4 :: some v :: r) H d:=oH rfl h
theorem Pg {v:V} {r:St} {o0 o1 o2 o3 o4 o5:Option V} (h:bA H v d):TD (tV 6) (o0 :: o1 :: o2 :: o3 :: o4 :: o5 :: some v :: r) H d:=oH rfl h
theorem Cp {v:V} {r:St} {o0 o1 o2 o3 o4 o5 o6:Option V} (h:bA H v d):TD (tV 7) (o0 :: o1 :: o2 :: o3 :: o4 :: o5 :: o6 :: some v :: r) H d:=oH rfl h
theorem Ph {v:V} {r:St} {o0 o1 o2 o3 o4 o5 o6 o7:Option V} (h:bA H v d):TD (tV 8) (o0 :: o1 :: o2 :: o3 :: o4 :: o5 :: o6 :: o7 :: some v :: r) H d:=oH rfl h
theorem tO {v:V} {r:St} {o0 o1 o2 o3 o4 o5 o6 o7 o8:Option V} (h:bA H v d):TD (tV 9) (o0 :: o1 :: o2 :: o3 :: o4 :: o5 :: o6 :: o7 :: o8 :: some v :: r) H d:=oH rfl h
theorem lB {v:V} {r:St} {o0 o1 o2 o3 o4 o5 o6 o7 o8 o9:Option V} (h:bA H v d):TD (tV 10) (o0 :: o1 :: o2 :: o3 :: o4 :: o5 :: o6 :: o7 :: o8 :: o9 :: some v :: r) H d:=oH rfl h
theorem rR {v:V} {r:St} {o0 o1 o2 o3 o4 o5 o6 o7 o8 o9 gM:Option V} (h:bA H v d):TD (tV 11) (o0 :: o1 :: o2 :: o3 :: o4 :: o5 :: o6 :: o7 :: o8 :: o9 :: gM :: some v :: r) H d:=oH rfl h
theorem zE {v:V} {r:St} {o0 o1 o2 o3 o4 o5 o6 o7 o8 o9 gM jc:Option V} (h:bA H v d):TD (tV 12) (o0 :: o1 :: o2 :: o3 :: o4 :: o5 :: o6 :: o7 :: o8 :: o9 :: gM :: jc :: some v :: r) H d:=oH rfl h
theorem Pj {v:V} {r:St} {o0 o1 o2 o3 o4 o5 o6 o7 o8 o9 gM jc iC:Option V} (h:bA H v d):TD (tV 13) (o0 :: o1 :: o2 :: o3 :: o4 :: o5 :: o6 :: o7 :: o8 :: o9 :: gM :: jc :: iC :: some v :: r) H d:=oH rfl h
theorem Pk {v:V} {r:St} {o0 o1 o2 o3 o4 o5 o6 o7 o8 o9 gM jc iC iU:Option V} (h:bA H v d):TD (tV 14) (o0 :: o1 :: o2 :: o3 :: o4 :: o5 :: o6 :: o7 :: o8 :: o9 :: gM :: jc :: iC :: iU :: some v :: r) H d:=oH rfl h
theorem Pn {v:V} {r:St} {o0 o1 o2 o3 o4 o5 o6 o7 o8 o9 gM jc iC iU iG:Option V} (h:bA H v d):TD (tV 15) (o0 :: o1 :: o2 :: o3 :: o4 :: o5 :: o6 :: o7 :: o8 :: o9 :: gM :: jc :: iC :: iU :: iG :: some v :: r) H d:=oH rfl h
theorem Yt {r:V->Hp->VK->Prop} (hr:r=fun x H Q=>match x with | .int i=>Q (.int (-i)) H | _=>False) (h:TD te σ H (.int i)):TD (tUn r te) σ H (.int (-i)):=by
 subst hr
 exact ⟨fun H1 s Q q=>h.r H1 s _ fun v H2 s2 hv=>by cases hv; exact q _ H2 s2 (.int _)⟩
theorem aW:KH iI σ H []:=⟨fun H1 _ _ q=>q [] H1 (Same.refl _) .nil⟩
theorem ao (h:TD te σ H d) (r:KH ts σ H ds):KH (cj te ts) σ H (d :: ds):=⟨fun H1 s Q q =>
 h.r H1 s _ fun v H2 s2 hv=>r.r H2 (s.trans s2) _ fun vs H3 s3 hvs=>q _ H3 (s2.trans s3) (.cons (hv.same s3) hvs)⟩
theorem bN (h:KH ts σ H ds) (few:ds.length<=25):TD (mF ts) σ H (.tup ds):=⟨fun H1 s Q q =>
 h.r H1 s _ fun vs H2 s2 hvs=>⟨by have mJ:sizeLine=16777216:=sizeLine_eq; have:=hvs.len; omega,fun p hp=>q _ _ (s2.upd hp) (.tup aq (by rw [hvs.len]; exact few) (hvs.same ((Same.refl H2).upd hp)))⟩⟩
theorem Pq (h:KH ts σ H ds) (few:ds.length<=25):TD (rK ts) σ H .oth:=⟨fun H1 s Q q =>
 h.r H1 s _ fun vs H2 s2 hvs=>⟨by have mJ:sizeLine=16777216:=sizeLine_eq; have:=hvs.len; omega,fun p hp=>q _ _ (s2.upd hp) (.lst aq)⟩⟩
theorem Yu:TD Em σ H .oth:=⟨fun H1 _ _ q p hp=>q _ _ ((Same.refl H1).upd hp) (.Ow aq)⟩
theorem FW (ha:TD ta σ H (.int i)) (hb:TD tb σ H (.int j)):TD (wQ (fI fun i j=>.int (i+j)) ta tb) σ H (.int (i+j)):=⟨fun H1 s Q q =>
 ha.r H1 s _ fun v H2 s2 hv=>by
   cases hv
   exact hb.r H2 (s.trans s2) _ fun v H3 s3 hv=>by cases hv; exact q _ H3 (s2.trans s3) (.int _)⟩
theorem Im {k:Nat} (ha:TD ta σ H (.int (k:Int))):TD (wQ (fI fun i j=>.int (i+j)) ta (tC (.int 1))) σ H (.int ((k+1:Nat):Int)):=FW ha dY
theorem oJ (ha:TD ta σ H (.int i)) (hb:TD tb σ H (.int j)):TD (wQ (fI fun i j=>.int (i-j)) ta tb) σ H (.int (i-j)):=⟨fun H1 s Q q =>
 ha.r H1 s _ fun v H2 s2 hv=>by
   cases hv
   exact hb.r H2 (s.trans s2) _ fun v H3 s3 hv=>by cases hv; exact q _ H3 (s2.trans s3) (.int _)⟩
theorem mU (ha:TD ta σ H (.tup xs)) (hb:TD tb σ H (.tup ys)) (few:xs.length+ys.length<=25):TD (wQ Yg ta tb) σ H (.tup (xs++ys)):=⟨fun H1 s Q q =>
 ha.r H1 s _ fun v H2 s2 hv=>hb.r H2 (s.trans s2) _ fun w H3 s3 hw=>by
   obtain ⟨a,vs,rfl,ea,la,ra⟩:=(hv.same s3).iw
   obtain ⟨b,ws,rfl,eb,lb,rb⟩:=hw.iw
   have mJ:sizeLine=16777216:=sizeLine_eq
   have l1:=ra.len
   have l2:=rb.len
   exact ⟨a,b,vs,ws,rfl,rfl,ea,eb,by omega,fun p H4 hp s4=>q _ H4 ((s2.trans s3).trans s4) (.tup hp (by rw [List.length_append]; omega) ((ra.app rb).same s4))⟩⟩
theorem vG:TPo oZ σ H none:=⟨fun H1 _ _ q=>q H1 (Same.refl _)⟩
theorem jG (h:TD te σ H (.int i)):TPo (yQ te) σ H (some i):=⟨fun H1 s Q q=>h.r H1 s _ fun v H2 s2 hv=>by cases hv; exact q H2 s2⟩
theorem Pr (h:TD te σ H (.tup xs)) (hl:TPo tl σ H lo) (hh:TPo th σ H hi):TD (Z6 SlA te tl th) σ H (.tup ((xs.drop (HT.fX xs.length 0 lo)).take (HT.fX xs.length xs.length hi-HT.fX xs.length 0 lo))):=⟨fun H1 s Q q =>
 h.r H1 s _ fun v H2 s2 hv=>hl.r H2 (s.trans s2) _ fun H3 s3=>hh.r H3 ((s.trans s2).trans s3) _ fun H4 s4=>by
   obtain ⟨a,vs,rfl,ea,la,ra⟩:=(hv.same (s3.trans s4)).iw
   refine ⟨a,vs,rfl,ea,fun p H5 hp s5=>q _ H5 (((s2.trans s3).trans s4).trans s5) (.tup hp (Nat.le_trans (nT _ _ _) la) ?_)⟩
   unfold nQ
   rw [ra.len]
   exact ((ra.Wa _).V9 _).same s5⟩
theorem Cq {k:Nat} (h:TD te σ H (.tup xs)) (hh:TPo th σ H (some (k:Int))):TD (Z6 SlA te oZ th) σ H (.tup (xs.take k)):=by
 have z:=Pr h vG hh
 rw [HT.jz,HT.iJ,List.drop_zero,Nat.sub_zero] at z
 rw [show xs.take k=xs.take (min k xs.length) from by rw [List.take_eq_take_iff]; omega]
 exact z
theorem jw {k:Nat} (h:TD te σ H (.tup xs)) (hl:TPo tl σ H (some (k:Int))):TD (Z6 SlA te tl oZ) σ H (.tup (xs.drop k)):=by
 have z:=Pr h hl vG
 rw [HT.jz,HT.iJ] at z
 have e:(xs.drop (min k xs.length)).take (xs.length-min k xs.length)=xs.drop k:=by
   rw [List.take_of_length_le (by rw [List.length_drop]; omega)]
   by_cases hk:k<=xs.length
   . rw [Nat.min_eq_left hk]
   . rw [List.drop_of_length_le (by omega),List.drop_of_length_le (by omega)]
 rw [e] at z
 exact z
theorem Yv (h:TD te σ H (.tup xs)):TD (X6 K te) σ H (.tup xs.reverse):=⟨fun H1 s Q q =>
 h.r H1 s _ fun v H2 s2 hv=>by
   obtain ⟨a,vs,rfl,ea,la,ra⟩:=hv.iw
   exact ⟨a,vs,rfl,bM.of ea,fun p hp=>q _ _ (s2.upd hp) (.tup aq (by rw [List.length_reverse]; exact la) (ra.rev.same ((Same.refl H2).upd hp)))⟩⟩
theorem Pu (h:TD te σ H (.tup xs)):TD (RZ (fun xs H Q=>∃ p ys,xs=[V.ref p]/\(dg K H p ys∨bM K H p ys)/\∀ l,H l=none->Q (.ref l) (upd H l (.lst ys))) (cj te iI)) σ H .oth:=⟨fun H1 s Q q =>
 h.r H1 s _ fun v H2 s2 hv=>by
   obtain ⟨a,vs,rfl,ea,la,ra⟩:=hv.iw
   exact ⟨a,vs,rfl,.inr (bM.of ea),fun l hl=>q _ _ (s2.upd hl) (.lst aq)⟩⟩
end
structure Kp (H H':Hp):Prop where
 tup:∀ b xs,H b=some (.tup xs)->H' b=some (.tup xs)
 lst:∀ b xs,H b=some (.lst xs)->∃ ys,H' b=some (.lst ys)
 Ow:∀ b ks,H b=some (.dK ks)->∃ k2,H' b=some (.dK k2)
theorem Kp.refl (H:Hp):Kp H H:=⟨fun _ _ h=>h,fun _ _ h=>⟨_,h⟩,fun _ _ h=>⟨_,h⟩⟩
theorem Kp.of {H H':Hp} (s:Same H H'):Kp H H':=⟨fun _ _ h=>s _ _ h,fun _ _ h=>⟨_,s _ _ h⟩,fun _ _ h=>⟨_,s _ _ h⟩⟩
theorem Kp.trans {H H1 H2:Hp} (a:Kp H H1) (b:Kp H1 H2):Kp H H2:=⟨fun _ _ h=>b.tup _ _ (a.tup _ _ h),fun _ _ h=>let ⟨_,z⟩:=a.lst _ _ h; b.lst _ _ z,fun _ _ h=>let ⟨_,z⟩:=a.Ow _ _ h; b.Ow _ _ z⟩
theorem Kp.put {H:Hp} {a:Addr} {xs ys:List V} (h:H a=some (.lst xs)):Kp H (upd H a (.lst ys)):=by
 refine ⟨fun b zs e=>?_,fun b zs e=>?_,fun b zs e=>?_⟩
 . rw [aL (fun z=>by rw [z,h] at e; cases e)]; exact e
 . by_cases z:b=a
   . subst z; exact ⟨ys,aq⟩
   . exact ⟨zs,by rw [aL z]; exact e⟩
 . exact ⟨zs,by rw [aL (fun z=>by rw [z,h] at e; cases e)]; exact e⟩
mutual
theorem bA.kp {H H':Hp} (s:Kp H H'):∀ {v:V} {d:Da},bA H v d->bA H' v d
 | _,_,.non=>.non
 | _,_,.bl b=>.bl b
 | _,_,.int i=>.int i
 | _,_,.str z h=>.str z h
 | _,_,.tup h l r=>.tup (s.tup _ _ h) l (bH.kp s r)
 | _,_,.lst h=>let ⟨_,z⟩:=s.lst _ _ h; .lst z
 | _,_,.Ow h=>let ⟨_,z⟩:=s.Ow _ _ h; .Ow z
theorem bH.kp {H H':Hp} (s:Kp H H'):∀ {v:List V} {d:List Da},bH H v d->bH H' v d
 | _,_,.nil=>.nil
 | _,_,.cons h r=>.cons (bA.kp s h) (bH.kp s r)
end
section
variable {σ:St} {H:Hp} {te:TE} {ts:TA} {ds pH:List Da} {K:PySem.W.Frag}
theorem FZ (h:KH ts σ H ds) (few:ds.length<=1000) {Q:VK} (q:∀ a vs H2,H a=none->Same H H2->H2 a=some (.lst vs)->bH H2 vs ds->Q (.ref a) H2):rK ts σ H Q :=
 h.r H (Same.refl H) _ fun vs H2 s2 hvs=>⟨by have mJ:sizeLine=16777216:=sizeLine_eq; have:=hvs.len; omega,fun p hp=>q p vs _ (by
   cases e:H p with
   | none=>rfl
   | some o=>rw [s2 _ _ e] at hp; cases hp) (s2.upd hp) aq (hvs.same ((Same.refl H2).upd hp))⟩
theorem Yw {k:Nat} {a:Addr} {vs:List V} (e:σ[k]?=some (some (.ref a))) (ha:H a=some (.lst vs)) (hv:bH H vs pH) (h:KH ts σ H ds) (few:pH.length+ds.length<=1000) {Q:VK}
   (q:∀ b ws H2,H b=none->Same H H2->H2 b=some (.lst ws)->bH H2 ws (pH++ds)->Q (.ref b) H2):wQ R7 (tV k) (rK ts) σ H Q:=by
 show tV k σ H _
 unfold tV
 rw [e]
 refine FZ h (by omega) fun c us H2 _ s2 ec hu=>?_
 have mJ:sizeLine=16777216:=sizeLine_eq
 have l1:=hv.len
 have l2:=hu.len
 refine ⟨a,c,vs,us,rfl,rfl,s2 _ _ ha,ec,by omega,fun p hp=>q p _ _ (by
   cases e:H p with
   | none=>rfl
   | some o=>rw [s2 _ _ e] at hp; cases hp) (s2.upd hp) aq (((hv.same s2).app hu).same ((Same.refl H2).upd hp))⟩
theorem xT {l:Addr} {os:List V} {iF iO:Nat} {D:Ends} {a:Addr} {vs:List V} {f:Da->Da} (e:σ[iF]?=some (some (.ref a))) (ne:iO≠iF) (h0:∃ o,σ=σ.set iO o)
   (ha:H a=some (.lst vs)) (hv:bH H vs ds) (Yx:l≠a) (el:H l=some (.lst os)) (hos:bH H os pH) (few:ds.length+pH.length<=1000)
   (elt:∀ x d H',d∈pH->Kp H H'->bA H' x d->TD te (σ.set iO (some x)) H' (f d))
   (fin:∀ o H' ws,Kp H H'->aP a H H'->H' a=some (.lst ws)->bH H' ws (ds++pH.map f)->D.nx (σ.set iO o) H') :
   ∃ W:Nat->Nat->St->Hp->Prop,(∃ m,W 0 m σ H)/\∀ i m σ H,W i m σ H ->
     ((M4 K l).stop i H/\D.nx σ H)∨((M4 K l).go i H/\∃ N:St->Hp->Prop,(∀ σ' H',N σ' H'->∃ m',m'<m/\W (i+1) m' σ' H')/\∀ x H',(M4 K l).MP i H x H'->jE iO x σ H' fun σ2 H2=>lD (JQ K "list" ju (tV iF) (cj te iI)) { D with nx:=N,ct:=N,bk:=D.nx } σ2 H2):=by
 have mJ:sizeLine=16777216:=sizeLine_eq
 have lo:=hos.len
 refine jQ (xs:=os) (fun i σ' H'=>∃ o ws,σ'=σ.set iO o/\Kp H H'/\aP a H H'/\H' a=some (.lst ws)/\H' l=some (.lst os)/\bH H' ws (ds++(pH.take i).map f))
   (by obtain ⟨o,ho'⟩:=h0; exact ⟨o,vs,ho',Kp.refl _,aP.of (Same.refl _),ha,el,by simpa using hv⟩) (fun i σ' H' _ ⟨_,_,_,_,_,_,z,_⟩=>dg.of z) (fun i x σ' H' hx ⟨o,ws,eσ,kp,sb,ea,el',hws⟩=>?_) (fun σ' H' ⟨o,ws,eσ,kp,sb,ea,el',hws⟩=>?_)
 . subst eσ
   obtain ⟨d,hd,hxd⟩:=hos.get hx
   have eF:(σ.set iO (some x))[iF]?=some (some (.ref a)):=by rw [List.getElem?_set_ne ne]; exact e
   show lD (JQ K "list" ju (tV iF) (cj te iI)) _ ((σ.set iO o).set iO (some x)) H'
   rw [List.set_set]
   unfold lD JQ tV
   rw [eF]
   refine ⟨.inl ⟨rfl,_,dg.of ea⟩,?_⟩
   refine (elt x d H' (List.mem_of_getElem? hd) kp (hxd.kp kp)).r H' (Same.refl _) _ fun v H2 s2 hvd=>?_
   have lw:=hws.len
   rw [List.length_append,List.length_map,List.length_take] at lw
   refine ⟨a,ws,v,rfl,rfl,s2 _ _ ea,by omega,?_⟩
   have Wb:=s2 _ _ ea
   refine ⟨some x,ws++[v],rfl,(kp.trans (Kp.of s2)).trans (Kp.put Wb),(sb.trans (aP.of s2)).upd,aq,(aL Yx).trans (s2 _ _ el'),?_⟩
   have z:(pH.take (i+1)).map f=(pH.take i).map f++[f d]:=by rw [List.take_add_one,hd,List.map_append]; rfl
   rw [z,<- List.append_assoc]
   exact ((hws.same s2).app (.cons hvd .nil)).kp (Kp.put Wb)
 . subst eσ
   rw [lo,List.take_length] at hws
   exact fin o H' ws kp sb ea hws
theorem Cr {tas:TA} {iF iO:Nat} {D:Ends} {a:Addr} {vs:List V} {f:Da->Da} (e:σ[iF]?=some (some (.ref a))) (ne:iO≠iF) (h0:∃ o,σ=σ.set iO o)
   (ha:H a=some (.lst vs)) (hv:bH H vs ds) (ho:KH tas σ H pH) (few:ds.length+pH.length<=1000)
   (elt:∀ x d H',d∈pH->Kp H H'->bA H' x d->TD te (σ.set iO (some x)) H' (f d))
   (fin:∀ o H' ws,Kp H H'->aP a H H'->H' a=some (.lst ws)->bH H' ws (ds++pH.map f)->D.nx (σ.set iO o) H') :
   Bb (sX K (rK tas)) (jE iO) (lD (JQ K "list" ju (tV iF) (cj te iI))) D σ H:=by
 unfold Bb sX
 refine FZ (ds:=pH) ho (by omega) fun l os H1 fl s1 el hos=>⟨l,rfl,⟨_,dg.of el⟩,?_⟩
 have Yx:l≠a:=fun z=>by rw [z,ha] at fl; cases fl
 exact xT e ne h0 (s1 _ _ ha) (hv.same s1) Yx el hos few (fun x d H' hd kp hx=>elt x d H' hd ((Kp.of s1).trans kp) hx) (fun o H' ws kp sb ea hws=>fin o H' ws ((Kp.of s1).trans kp) (fun b u n z=>sb b u n (s1 b u z)) ea hws)
end
end gY
namespace gY
open PySem L2
section
variable {σ:St} {H:Hp} {te:TE} {ts:TA} {ds pH:List Da} {K:PySem.W.Frag} {D:Ends} {t u:TS}
theorem Tz {i:Nat} (h:KH ts σ H ds) (few:ds.length<=1000) (q:∀ a vs H2,H a=none->Same H H2->H2 a=some (.lst vs)->bH H2 vs ds->D.nx (σ.set i (some (.ref a))) H2):nJ (rK ts) (jE i) D σ H:=FZ h few q
theorem Io {i k:Nat} {a:Addr} {vs:List V} (e:σ[k]?=some (some (.ref a))) (ha:H a=some (.lst vs)) (hv:bH H vs pH) (h:KH ts σ H ds) (few:pH.length+ds.length<=1000)
   (q:∀ b ws H2,H b=none->Same H H2->H2 b=some (.lst ws)->bH H2 ws (pH++ds)->D.nx (σ.set i (some (.ref b))) H2):nJ (wQ R7 (tV k) (rK ts)) (jE i) D σ H:=Yw e ha hv h few q
theorem Px {l:Addr} {os:List V} {iL iF iO:Nat} {a:Addr} {vs:List V} {f:Da->Da} (eo:σ[iL]?=some (some (.ref l))) (e:σ[iF]?=some (some (.ref a))) (ne:iO≠iF) (h0:∃ o,σ=σ.set iO o)
   (ha:H a=some (.lst vs)) (hv:bH H vs ds) (Yx:l≠a) (el:H l=some (.lst os)) (hos:bH H os pH) (few:ds.length+pH.length<=1000)
   (elt:∀ x d H',d∈pH->Kp H H'->bA H' x d->TD te (σ.set iO (some x)) H' (f d))
   (fin:∀ o H' ws,Kp H H'->aP a H H'->H' a=some (.lst ws)->bH H' ws (ds++pH.map f)->D.nx (σ.set iO o) H') :
   Bb (sX K (tV iL)) (jE iO) (lD (JQ K "list" ju (tV iF) (cj te iI))) D σ H:=by
 unfold Bb sX tV
 rw [eo]
 exact ⟨l,rfl,⟨_,dg.of el⟩,xT e ne h0 ha hv Yx el hos few elt fin⟩
theorem abu {g:TG} (h:te σ H fun x H1=>g x σ H1 (u D)):nA (nJ te g) u D σ H:=h
theorem Ip {g:TG} (h:∀ U:St->Hp->Prop,U=u D->te σ H fun x H1=>g x σ H1 U):nA (nJ te g) u D σ H:=h (u D) rfl
theorem Cu {i:Nat} (σs:Option V->St) (hs:∀ z,σ.set i z=σs z) (h:KH ts σ H ds) (few:ds.length<=1000) (q:∀ a vs H2,H a=none->Same H H2->H2 a=some (.lst vs)->bH H2 vs ds->u D (σs (some (.ref a))) H2):nA (nJ (rK ts) (jE i)) u D σ H :=
 Tz (D:={ D with nx:=u D }) h few fun a vs H2 h1 h2 h3 h4=>by show u D _ _; rw [hs]; exact q a vs H2 h1 h2 h3 h4
theorem Cv {i k:Nat} {a:Addr} {vs:List V} (σs:Option V->St) (hs:∀ z,σ.set i z=σs z) (e:σ[k]?=some (some (.ref a))) (ha:H a=some (.lst vs)) (hv:bH H vs pH) (h:KH ts σ H ds) (few:pH.length+ds.length<=1000)
   (q:∀ b ws H2,H b=none->Same H H2->H2 b=some (.lst ws)->bH H2 ws (pH++ds)->u D (σs (some (.ref b))) H2):nA (nJ (wQ R7 (tV k) (rK ts)) (jE i)) u D σ H :=
 Io (D:={ D with nx:=u D }) e ha hv h few fun b ws H2 h1 h2 h3 h4=>by show u D _ _; rw [hs]; exact q b ws H2 h1 h2 h3 h4
theorem aae {l:Addr} {os:List V} {iL iF iO:Nat} {a:Addr} {vs:List V} {f:Da->Da} (σs:Option V->St) (hs:∀ z,σ.set iO z=σs z) (eo:σ[iL]?=some (some (.ref l))) (e:σ[iF]?=some (some (.ref a))) (ne:iO≠iF) (h0:∃ o,σ=σs o)
   (ha:H a=some (.lst vs)) (hv:bH H vs ds) (Yx:l≠a) (el:H l=some (.lst os)) (hos:bH H os pH) (few:ds.length+pH.length<=1000)
   (elt:∀ x d H',d∈pH->Kp H H'->bA H' x d->TD te (σs (some x)) H' (f d))
   (fin:∀ o H' ws,Kp H H'->aP a H H'->H' a=some (.lst ws)->bH H' ws (ds++pH.map f)->u D (σs o) H') :
   nA (Bb (sX K (tV iL)) (jE iO) (lD (JQ K "list" ju (tV iF) (cj te iI)))) u D σ H :=
 Px (D:={ D with nx:=u D }) eo e ne (let ⟨o,z⟩:=h0; ⟨o,z.trans (hs o).symm⟩) ha hv Yx el hos few (fun x d H' h1 h2 h3=>by rw [hs]; exact elt x d H' h1 h2 h3) fun o H' ws h1 h2 h3 h4=>by show u D _ _; rw [hs]; exact fin o H' ws h1 h2 h3 h4
theorem KJ {tas:TA} {iF iO:Nat} {a:Addr} {vs:List V} {f:Da->Da} (σs:Option V->St) (hs:∀ z,σ.set iO z=σs z) (e:σ[iF]?=some (some (.ref a))) (ne:iO≠iF) (h0:∃ o,σ=σs o)
   (ha:H a=some (.lst vs)) (hv:bH H vs ds) (ho:KH tas σ H pH) (few:ds.length+pH.length<=1000)
   (elt:∀ x d H',d∈pH->Kp H H'->bA H' x d->TD te (σs (some x)) H' (f d))
   (fin:∀ o H' ws,Kp H H'->aP a H H'->H' a=some (.lst ws)->bH H' ws (ds++pH.map f)->u D (σs o) H') :
   nA (Bb (sX K (rK tas)) (jE iO) (lD (JQ K "list" ju (tV iF) (cj te iI)))) u D σ H :=
 Cr (D:={ D with nx:=u D }) e ne (let ⟨o,z⟩:=h0; ⟨o,z.trans (hs o).symm⟩) ha hv ho few (fun x d H' h1 h2 h3=>by rw [hs]; exact elt x d H' h1 h2 h3) fun o H' ws h1 h2 h3 h4=>by show u D _ _; rw [hs]; exact fin o H' ws h1 h2 h3 h4
end
theorem Py {H H1:Hp} {a:Addr} (s:Same H H1) (h:H1 a=none):H a=none:=by
 cases e:H a with
 | none=>rfl
 | some o=>rw [s _ _ e] at h; cases h
section
variable {n l h d r:Da}
end
theorem Pz {hs:List aJ} {h:aJ} (g:bw hs) (m:h∈hs):h.runs.length<=24:=by
 have z:=g.few
 have gh:=g.all h m
 have key:∀ rs:List (List Row),(∀ r∈rs,r≠[])->rs.length<=rs.flatten.length:=by
   intro rs
   induction rs with
   | nil=>intro _; exact Nat.le_refl _
   | cons r rs ih =>
     intro hh
     have h1:=ih fun x hx=>hh x (List.mem_cons_of_mem _ hx)
     have h2:r.length≠0:=fun e=>hh r List.mem_cons_self (List.eq_nil_of_length_eq_zero e)
     rw [List.flatten_cons,List.length_append,List.length_cons]
     omega
 have k1:=key h.runs fun r hr=>(gh.runs r hr).ne
 have k2:(aR h).length<=(namesOf hs).length:=by
   unfold namesOf
   obtain ⟨a,b,e⟩:=List.append_of_mem m
   rw [e,List.flatMap_append,List.flatMap_cons,List.length_append,List.length_append]
   omega
 unfold aR bL at k2
 rw [List.length_map] at k2
 omega
end gY
namespace gY
open PySem L2
section
variable {g:BI->TG} {te:BI->TE} {σ0:St} {D:Addr} {End:Hp->Prop} {H1:Hp}
end
section
variable {P:Program} {w:World} {K:PySem.W.Frag} {mg:Str->Option Value} {base:Heap} {t8 t6 tR tL:Tok}
end
end gY
namespace gY
open PySem L2
section
variable {P:Program} {w:World} {K:PySem.W.Frag} {mg:Str->Option Value} {base:Heap} {t8 t6 tR tL:Tok}
end
end gY
namespace gY
open PySem L2
section
variable {hs:List aJ} {s t l m:Da} {xs:List Da}
end
section
variable {P:Program} {w:World} {K:PySem.W.Frag} {mg:Str->Option Value} {base:Heap} {t8 t6 tR tL:Tok}
end
end gY
namespace gY
open PySem L2
section
variable {P:Program} {w:World} {K:PySem.W.Frag} {mg:Str->Option Value} {base:Heap} {t8 t6 tR tL:Tok}
end
end gY
namespace gY
open PySem L2
theorem uG {p:Addr} {H H':Hp} (h:bD H p) (h':bD H' p) (s:aP p H H'):Kp H H':=by
 obtain ⟨n,e,_⟩:=h
 obtain ⟨n',e',_⟩:=h'
 refine ⟨fun b xs z=>s b _ (fun w=>by rw [w,e] at z; cases z) z,fun b xs z=>?_,fun b ks z=>⟨_,s b _ (fun w=>by rw [w,e] at z; cases z) z⟩⟩
 by_cases w:b=p
 . subst w; exact ⟨_,e'⟩
 . exact ⟨_,s b _ w z⟩
theorem lO {α:Type} {H:Hp} {R:V->α->Prop} {f:α->Da}:∀ {vs:List V} {xs:List α},bH H vs (xs.map f)->(∀ v x,bA H v (f x)->R v x)->Paired R vs xs
 | [],[],.nil,_=>.nil
 | _ :: _,_ :: _,.cons h r,k=>.cons (k _ _ h) (lO r k)
section
variable {H:Hp} {v:V}
theorem dZ.off {r:Row} (h:bA H v (gK r)):dZ H v r:=by
 obtain ⟨a,vs,rfl,e,_,rr⟩:=h.iw
 obtain ⟨_,_,rfl,q1,q2⟩:=rr.two
 cases q1; cases q2; exact ⟨a,rfl,e⟩
theorem gH.off {r:List Row} (h:bA H v (jF r)):gH H v r:=by
 obtain ⟨a,vs,rfl,e,_,rr⟩:=h.iw
 exact ⟨a,vs,rfl,e,lO rr fun _ _=>dZ.off⟩
theorem lA.off {r:List (List Row)} (h:bA H v (FQ r)):lA H v r:=by
 obtain ⟨a,vs,rfl,e,_,rr⟩:=h.iw
 exact ⟨a,vs,rfl,e,lO rr fun _ _=>gH.off⟩
theorem fj.off {h:aJ} (d:bA H v (jK h)):fj H v h:=by
 obtain ⟨a,vs,rfl,e,_,rr⟩:=d.iw
 obtain ⟨_,_,_,_,b,rfl,q1,q2,q3,q4,q5⟩:=rr.five
 cases q1; cases q2; cases q3; cases q4; exact ⟨a,b,rfl,e,lA.off q5⟩
theorem gJ.off {hs:List aJ} (d:bA H v (lK hs)):gJ H v hs:=by
 obtain ⟨a,vs,rfl,e,_,rr⟩:=d.iw
 exact ⟨a,vs,rfl,e,lO rr fun _ _=>fj.off⟩
theorem PB {m:Option Int} (h:bA H v (FT m)):v=oE m:=by
 cases m <;> cases h <;> rfl
theorem fu.off {l:Letter} (d:bA H v (lM l)):fu H v l:=by
 obtain ⟨a,vs,rfl,e,_,rr⟩:=d.iw
 obtain ⟨_,_,_,b,rfl,q1,q2,q3,q4⟩:=rr.four
 cases q1; cases q2; cases q3; cases PB q4; exact ⟨a,rfl,e⟩
theorem fW.off {ls:List Letter} (d:bA H v (jN ls)):fW H v ls:=by
 obtain ⟨a,vs,rfl,e,_,rr⟩:=d.iw
 exact ⟨a,vs,rfl,e,lO rr fun _ _=>fu.off⟩
end
section
variable {g:BI->TG} {te:BI->TE} {σ0:St} {D:Addr} {End:Hp->Prop} {H1:Hp}
end
def lC {α:Type} (l:List α) (k:Nat) (x:α):List α:=l.take k++[x]++l.drop (k+1)
theorem mV {α:Type} {l:List α} {k:Nat} {y:α} (h:l[k]?=some y):l=l.take k++[y]++l.drop (k+1):=by
 obtain ⟨li,fi⟩:=List.getElem?_eq_some_iff.mp h
 rw [List.append_assoc,List.singleton_append,<- fi,List.getElem_cons_drop,List.take_append_drop]
theorem Cw {α:Type} {l:List α} {k:Nat} {x y:α} (h:l[k]?=some y):(lC l k x).length=l.length:=by
 conv=>rhs; rw [mV h]
 unfold lC
 simp
theorem PJ {α β:Type} {f:α->β} {l:List α} {k:Nat} {x y:α} (h:l[k]?=some y) (e:f x=f y):(lC l k x).map f=l.map f:=by
 conv=>rhs; rw [mV h]
 unfold lC
 simp [e]
theorem KN {α β:Type} {f:α->List β} {l:List α} {k:Nat} {x y:α} (h:l[k]?=some y) (e:f x=f y):(lC l k x).flatMap f=l.flatMap f:=by
 conv=>rhs; rw [mV h]
 unfold lC
 simp [e]
theorem Cy {α:Type} {l:List α} {k:Nat} {x z:α} (h:z∈lC l k x):z∈l∨z=x:=by
 unfold lC at h
 rw [List.mem_append,List.mem_append,List.mem_singleton] at h
 rcases h with (h | h) | h
 . exact .inl (List.mem_of_mem_take h)
 . exact .inr h
 . exact .inl (List.mem_of_mem_drop h)
theorem KQ {α:Type} {l:List α} {k:Nat} {x y z:α} (h:l[k]?=some y) (m:z∈l):z=y∨z∈lC l k x:=by
 rw [mV h,List.mem_append,List.mem_append,List.mem_singleton] at m
 unfold lC
 rw [List.mem_append,List.mem_append]
 rcases m with (m | m) | m
 . exact .inr (.inl (.inl m))
 . exact .inl m
 . exact .inr (.inr m)
theorem TF {α:Type} {l:List α} {k:Nat} {x:α}:x∈lC l k x:=by
 unfold lC
 rw [List.mem_append,List.mem_append]
 exact .inl (.inr (List.mem_singleton.mpr rfl))
theorem PK {hs:List aJ} {k:Nat} {h h':aJ} (g:bw hs) (e:hs[k]?=some h) (n:h'.name=h.name) (m:aR h'=aR h) (gh:cD h'):bw (lC hs k h')/\namesOf (lC hs k h')=namesOf hs:=by
 have e1:namesOf (lC hs k h')=namesOf hs:=KN e m
 exact ⟨⟨by rw [Cw e]; exact g.lo,by rw [Cw e]; exact g.hi,fun z hz=>(Cy hz).elim (g.all z) (fun w=>w ▸ gh),by rw [PJ e n]; exact g.names,by rw [e1]; exact g.rows,by rw [e1]; exact g.few⟩,e1⟩
theorem Cz {hs:List aJ} {ls:List Letter} {k:Nat} {h h':aJ} (g:bx hs ls) (e:hs[k]?=some h) (n:h'.name=h.name) (m:aR h'=aR h):bx (lC hs k h') ls:=by
 refine ⟨g.few,fun l hl=>?_,g.rise⟩
 obtain ⟨g1,g2,g3,g4,h1,m1,h2,m2,n1,n2,ne⟩:=g.all l hl
 have w:∀ z∈hs,∃ z'∈lC hs k h',aR z'=aR z/\z'.name=z.name:=fun z hz=>by
   rcases KQ (x:=h') e hz with q | q
   . subst q; exact ⟨h',TF,m,n⟩
   . exact ⟨z,q,rfl,rfl⟩
 obtain ⟨z1,q1,a1,b1⟩:=w h1 m1
 obtain ⟨z2,q2,a2,b2⟩:=w h2 m2
 exact ⟨g1,g2,g3,g4,z1,q1,z2,q2,by rw [a1]; exact n1,by rw [a2]; exact n2,by rw [b1,b2]; exact ne⟩
section
variable {P:Program} {w:World} {K:PySem.W.Frag} {mg:Str->Option Value} {base:Heap} {t8 t6 tR tL:Tok}
end
end gY
namespace gY
open PySem L2
section
variable {g:BI->TG} {te:BI->TE} {σ0:St} {D:Addr} {End:Hp->Prop} {H1:Hp}
end
theorem Ga {lo c:Int} {n:Nat} {g:TG} {tb:TS} {D:Ends} {σ:St} {H:Hp} (Pv:Nat->St->Hp->Prop) (h0:Pv 0 σ H)
   (hs:∀ i σ H,i<n->Pv i σ H->g (.int (lo+i * c)) σ H fun σ2 H2=>tb { D with nx:=Pv (i+1),ct:=Pv (i+1),bk:=D.nx } σ2 H2) (hd:∀ σ H,Pv n σ H->D.nx σ H) :
   ∃ W:Nat->Nat->St->Hp->Prop,(∃ m,W 0 m σ H)/\∀ i m σ H,W i m σ H ->
     ((N7 lo c n).stop i H/\D.nx σ H)∨((N7 lo c n).go i H/\∃ N:St->Hp->Prop,(∀ σ' H',N σ' H'->∃ m',m'<m/\W (i+1) m' σ' H')/\∀ x H',(N7 lo c n).MP i H x H'->g x σ H' fun σ2 H2=>tb { D with nx:=N,ct:=N,bk:=D.nx } σ2 H2):=by
 refine ⟨fun i m σ H=>m=n-i/\i<=n/\Pv i σ H,⟨n,rfl,Nat.zero_le _,h0⟩,fun i m σ H ⟨em,hi,p⟩=>?_⟩
 subst em
 rcases Nat.lt_or_ge i n with lt | ge
 . refine .inr ⟨lt,Pv (i+1),fun σ' H' p'=>⟨n-(i+1),by omega,rfl,lt,p'⟩,fun x H' ⟨e,y⟩=>?_⟩
   subst e y
   exact hs i σ _ lt p
 . have e:i=n:=by omega
   subst e
   exact .inl ⟨Nat.le_refl _,hd σ H p⟩
section
variable {P:Program} {w:World} {K:PySem.W.Frag} {mg:Str->Option Value} {base:Heap} {t8 t6 tR tL:Tok}
end
end gY
namespace Fw
section
variable {α:Type} [DecidableEq α]
abbrev D (α:Type):=α->α->Option Int
def put (d:D α) (i j:α) (x:Int):D α:=fun a b=>if a=i/\b=j then some x else d a b
def relax (m i j:α) (d:D α):D α:=match d i m,d m j with
 | some a,some b=>put d i j (if a+b > (d i j).getD (a+b) then a+b else (d i j).getD (a+b))
 | _,_=>d
def row (m i:α) (js:List α) (d:D α):D α:=js.foldl (fun d j=>relax m i j d) d
def turn (m:α) (is js:List α) (d:D α):D α:=is.foldl (fun d i=>row m i js d) d
def fw (ms ps:List α) (d:D α):D α:=ms.foldl (fun d m=>turn m ps ps d) d
def Le (d e:D α):Prop:=∀ i j x,d i j=some x->∃ y,e i j=some y/\x<=y
theorem Le.refl (d:D α):Le d d:=fun _ _ x h=>⟨x,h,Int.le_refl _⟩
theorem Le.trans {d e f:D α} (a:Le d e) (b:Le e f):Le d f:=fun i j x h=>by
 obtain ⟨y,h1,l1⟩:=a i j x h
 obtain ⟨z,h2,l2⟩:=b i j y h1
 exact ⟨z,h2,Int.le_trans l1 l2⟩
theorem CG {d:D α} {i j:α} {x:Int}:put d i j x i j=some x:=by unfold put; rw [if_pos ⟨rfl,rfl⟩]
theorem Yy {d:D α} {i j a b:α} {x:Int} (h:¬ (a=i/\b=j)):put d i j x a b=d a b:=by unfold put; rw [if_neg h]
theorem PL (m i j:α) (d:D α):Le d (relax m i j d):=by
 unfold relax
 split
 . rename_i a b ha hb
   intro u v x h
   by_cases q:u=i/\v=j
   . obtain ⟨rfl,rfl⟩:=q
     refine ⟨_,CG,?_⟩
     rw [h]
     show x<=if a+b > x then a+b else x
     split <;> omega
   . exact ⟨x,by rw [Yy q]; exact h,Int.le_refl _⟩
 . exact Le.refl d
theorem PN (m i:α):∀ (js:List α) (d:D α),Le d (row m i js d)
 | [],d=>Le.refl d
 | j :: js,d=>(PL m i j d).trans (PN m i js (relax m i j d))
theorem uH (m:α) (js:List α):∀ (is:List α) (d:D α),Le d (turn m is js d)
 | [],d=>Le.refl d
 | i :: is,d=>(PN m i js d).trans (uH m js is (row m i js d))
theorem Wc (ps:List α):∀ (ms:List α) (d:D α),Le d (fw ms ps d)
 | [],d=>Le.refl d
 | m :: ms,d=>(uH m ps ps d).trans (Wc ps ms (turn m ps ps d))
def via (m:α) (d:D α) (i j:α):Option Int:=match d i m,d m j with
 | some a,some b=>some (if a+b > (d i j).getD (a+b) then a+b else (d i j).getD (a+b))
 | _,_=>d i j
theorem CJ (m i j:α) (d:D α):relax m i j d=fun a b=>if a=i/\b=j then via m d i j else d a b:=by
 funext a b
 have same:d a b=if a=i/\b=j then d i j else d a b:=by
   split
   . rename_i q; rw [q.1,q.2]
   . rfl
 unfold relax via
 cases h1:d i m with
 | none=>exact same
 | some x =>
   cases h2:d m j with
   | none=>exact same
   | some y=>rfl
def Low (m:α) (d:D α):Prop:=∀ x,d m m=some x->x<=0
theorem Ir {m:α} {d:D α} (h:Low m d) (i:α):via m d i m=d i m:=by
 unfold via
 split
 . rename_i a b ha hb
   have:=h b hb
   rw [ha]
   show some (if a+b > a then a+b else a)=some a
   rw [if_neg (by omega)]
 . rfl
theorem Iu {m:α} {d:D α} (h:Low m d) (j:α):via m d m j=d m j:=by
 unfold via
 split
 . rename_i a b ha hb
   have:=h a ha
   rw [hb]
   show some (if a+b > b then a+b else b)=some b
   rw [if_neg (by omega)]
 . rfl
def Mid (m:α) (d0:D α) (R:α->α->Prop) (d:D α):Prop:=(∀ i j,R i j->d i j=via m d0 i j)/\∀ i j,¬ R i j->d i j=d0 i j
theorem Mid.col {m:α} {d0 d:D α} {R:α->α->Prop} (h:Low m d0) (M:Mid m d0 R d) (i:α):d i m=d0 i m:=by
 by_cases q:R i m
 . rw [M.1 i m q]; exact Ir h i
 . exact M.2 i m q
theorem Mid.row {m:α} {d0 d:D α} {R:α->α->Prop} (h:Low m d0) (M:Mid m d0 R d) (j:α):d m j=d0 m j:=by
 by_cases q:R m j
 . rw [M.1 m j q]; exact Iu h j
 . exact M.2 m j q
theorem TJ {m:α} {d0 d:D α} {R:α->α->Prop} (h:Low m d0) (M:Mid m d0 R d) (i j:α):via m d i j=via m d0 i j:=by
 have e1:=M.col h i
 have e2:=M.row h j
 by_cases q:R i j
 . have e3:=M.1 i j q
   unfold via at e3 ⊢
   rw [e1,e2]
   split
   . rename_i a b ha hb
     rw [ha,hb] at e3
     have e4:d i j=some (if a+b > (d0 i j).getD (a+b) then a+b else (d0 i j).getD (a+b)):=e3
     rw [e4]
     show some (if a+b > (if a+b > (d0 i j).getD (a+b) then a+b else (d0 i j).getD (a+b)) then a+b else (if a+b > (d0 i j).getD (a+b) then a+b else (d0 i j).getD (a+b)))=some _
     congr 1
     split <;> first | omega | rfl | (split <;> first | omega | rfl)
   . rename_i hn
     rw [e3]
     split
     . rename_i a b ha hb
       exact (hn a b ha hb).elim
     . rfl
 . have e3:=M.2 i j q
   unfold via
   rw [e1,e2,e3]
theorem Mid.relax {m:α} {d0 d:D α} {R:α->α->Prop} (h:Low m d0) (M:Mid m d0 R d) (i j:α):Mid m d0 (fun a b=>R a b∨(a=i/\b=j)) (relax m i j d):=by
 rw [CJ,TJ h M]
 refine ⟨fun a b r=>?_,fun a b r=>?_⟩
 . by_cases q:a=i/\b=j
   . show (if a=i/\b=j then _ else _)=_
     rw [if_pos q,q.1,q.2]
   . show (if a=i/\b=j then _ else _)=_
     rw [if_neg q]
     exact M.1 a b (r.resolve_right q)
 . show (if a=i/\b=j then _ else _)=_
   rw [if_neg (fun q=>r (.inr q))]
   exact M.2 a b (fun q=>r (.inl q))
theorem Mid.abv {m:α} {d0:D α} (h:Low m d0) (i:α):∀ (js:List α) {d:D α} {R:α->α->Prop},Mid m d0 R d->Mid m d0 (fun a b=>R a b∨(a=i/\b∈js)) (Fw.row m i js d)
 | [],d,R,M=>⟨fun a b r=>M.1 a b (r.elim id fun z=>by simp at z),fun a b r=>M.2 a b fun z=>r (.inl z)⟩
 | j :: js,d,R,M=>by
   have z:=Mid.abv h i js (M.relax h i j)
   refine ⟨fun a b r=>z.1 a b ?_,fun a b r=>z.2 a b ?_⟩
   . rcases r with r | ⟨rfl,r⟩
     . exact .inl (.inl r)
     . rcases List.mem_cons.mp r with r | r
       . exact .inl (.inr ⟨rfl,r⟩)
       . exact .inr ⟨rfl,r⟩
   . rintro ((q | q) | q)
     . exact r (.inl q)
     . exact r (.inr ⟨q.1,by rw [q.2]; exact List.mem_cons_self⟩)
     . exact r (.inr ⟨q.1,List.mem_cons_of_mem _ q.2⟩)
theorem Mid.Wd {m:α} {d0:D α} (h:Low m d0) (js:List α):∀ (is:List α) {d:D α} {R:α->α->Prop},Mid m d0 R d->Mid m d0 (fun a b=>R a b∨(a∈is/\b∈js)) (Fw.turn m is js d)
 | [],d,R,M=>⟨fun a b r=>M.1 a b (r.elim id fun z=>by simp at z),fun a b r=>M.2 a b fun z=>r (.inl z)⟩
 | i :: is,d,R,M=>by
   have z:=Mid.Wd h js is (Mid.abv h i js M)
   refine ⟨fun a b r=>z.1 a b ?_,fun a b r=>z.2 a b ?_⟩
   . rcases r with r | ⟨r,r2⟩
     . exact .inl (.inl r)
     . rcases List.mem_cons.mp r with r | r
       . exact .inl (.inr ⟨r,r2⟩)
       . exact .inr ⟨r,r2⟩
   . rintro ((q | q) | q)
     . exact r (.inl q)
     . exact r (.inr ⟨by rw [q.1]; exact List.mem_cons_self,q.2⟩)
     . exact r (.inr ⟨List.mem_cons_of_mem _ q.1,q.2⟩)
theorem zF {m:α} {d:D α} (h:Low m d) {ps:List α} {i j:α} (hi:i∈ps) (hj:j∈ps):turn m ps ps d i j=via m d i j:=by
 have z:=Mid.Wd h ps ps (d:=d) (R:=fun _ _=>False) ⟨fun _ _ r=>r.elim,fun _ _ _=>rfl⟩
 exact z.1 i j (.inr ⟨hi,hj⟩)
def Closed (ps S:List α) (d:D α):Prop:=∀ k∈S,∀ i∈ps,∀ j∈ps,∀ a b,d i k=some a->d k j=some b->∃ c,d i j=some c/\a+b<=c
def Bad (ps:List α) (d:D α):Prop:=∃ p∈ps,∃ x,d p p=some x/\0<x
theorem Bad.le {ps:List α} {d e:D α} (b:Bad ps d) (l:Le d e):Bad ps e:=by
 obtain ⟨p,hp,x,h,x0⟩:=b
 obtain ⟨y,h2,l2⟩:=l p p x h
 exact ⟨p,hp,y,h2,by omega⟩
theorem Yz {m:α} {d:D α} {i j:α} {x:Int} (h:d i j=some x):∃ y,via m d i j=some y/\x<=y:=by
 unfold via
 split
 . rename_i a b ha hb
   refine ⟨_,rfl,?_⟩
   rw [h]
   show x<=if a+b > x then a+b else x
   split <;> omega
 . exact ⟨x,h,Int.le_refl _⟩
theorem uI {m:α} {d:D α} {i j:α} {a b:Int} (ha:d i m=some a) (hb:d m j=some b):∃ y,via m d i j=some y/\a+b<=y:=by
 unfold via
 rw [ha,hb]
 refine ⟨_,rfl,?_⟩
 show a+b<=if a+b > (d i j).getD (a+b) then a+b else (d i j).getD (a+b)
 split <;> omega
theorem pI {m:α} {d:D α} {i j:α} {x:Int} (h:via m d i j=some x):d i j=some x∨∃ a b,d i m=some a/\d m j=some b/\x=a+b:=by
 unfold via at h
 split at h
 . rename_i a b ha hb
   have e:=Option.some.inj h
   by_cases q:a+b > (d i j).getD (a+b)
   . rw [if_pos q] at e
     exact .inr ⟨a,b,ha,hb,e.symm⟩
   . rw [if_neg q] at e
     cases z:d i j with
     | none=>rw [z] at e; exact .inr ⟨a,b,ha,hb,e.symm⟩
     | some y=>rw [z] at e; exact .inl (congrArg some e)
 . exact .inl h
theorem Closed.turn {ps S:List α} {m:α} {d:D α} (hm:m∈ps) (hS:∀ k∈S,k∈ps) (h:Low m d) (C:Closed ps S d):Closed ps (m :: S) (Fw.turn m ps ps d):=by
 intro k hk i hi j hj a b ha hb
 have hkp:k∈ps:=by
   rcases List.mem_cons.mp hk with q | q
   . rw [q]; exact hm
   . exact hS k q
 rw [zF h hi hkp] at ha
 rw [zF h hkp hj] at hb
 rw [zF h hi hj]
 rcases List.mem_cons.mp hk with q | q
 . subst q
   rw [Ir h] at ha
   rw [Iu h] at hb
   exact uI ha hb
 . have cl:=C k q
   rcases pI ha with ha | ⟨a1,a2,h1,h2,rfl⟩
   . rcases pI hb with hb | ⟨b1,b2,h3,h4,rfl⟩
     . obtain ⟨c,hc,l⟩:=cl i hi j hj a b ha hb
       obtain ⟨y,hy,l2⟩:=Yz (m:=m) hc
       exact ⟨y,hy,by omega⟩
     . obtain ⟨c,hc,l⟩:=cl i hi m hm a b1 ha h3
       obtain ⟨y,hy,l2⟩:=uI hc h4
       exact ⟨y,hy,by omega⟩
   . rcases pI hb with hb | ⟨b1,b2,h3,h4,rfl⟩
     . obtain ⟨c,hc,l⟩:=cl m hm j hj a2 b h2 hb
       obtain ⟨y,hy,l2⟩:=uI h1 hc
       exact ⟨y,hy,by omega⟩
     . obtain ⟨c,hc,l⟩:=cl m hm m hm a2 b1 h2 h3
       have:=h c hc
       obtain ⟨y,hy,l2⟩:=uI h1 h4
       exact ⟨y,hy,by omega⟩
theorem xU {ps:List α}:∀ (ms S:List α) (d:D α),(∀ m∈ms,m∈ps)->(∀ k∈S,k∈ps)->(Bad ps d∨Closed ps S d)->Bad ps (fw ms ps d)∨Closed ps (ms.reverse++S) (fw ms ps d)
 | [],S,d,_,_,h=>h
 | m :: ms,S,d,hm,hS,h=>by
   have m0:=hm m List.mem_cons_self
   have hS':∀ k∈m :: S,k∈ps:=fun k hk=>(List.mem_cons.mp hk).elim (fun e=>e ▸ m0) (hS k)
   have z:=xU ms (m :: S) (Fw.turn m ps ps d) (fun x hx=>hm x (List.mem_cons_of_mem _ hx)) hS' (by
     rcases h with h | h
     . exact .inl (h.le (uH m ps ps d))
     . by_cases q:Low m d
       . exact .inr (h.turn m0 hS q)
       . refine .inl (Bad.le ?_ (uH m ps ps d))
         refine ⟨m,m0,?_⟩
         cases e:d m m with
         | none=>exact absurd (fun x hx=>by rw [e] at hx; cases hx) q
         | some x =>
           refine ⟨x,rfl,?_⟩
           by_cases w:x<=0
           . exact absurd (fun y hy=>by rw [e] at hy; cases hy; exact w) q
           . omega)
   have e:(m :: ms).reverse++S=ms.reverse++m :: S:=by simp
   rw [e]
   exact z
theorem YB {ps:List α} (d:D α):Bad ps (fw ps ps d)∨Closed ps ps (fw ps ps d):=by
 rcases xU ps [] d (fun _ h=>h) (fun k hk=>by simp at hk) (.inr fun k hk=>by simp at hk) with h | h
 . exact .inl h
 . exact .inr fun k hk=>h k (by simp [hk])
end
end Fw
namespace mW
open PySem L2 gY
def top (i:Nat):Stmt:=PySem.Challenge.pw_skewbooks_k05_whole_placings_of_ledgers.main.body.getD i (.Pass ⟨0,0,0,0⟩)
abbrev rT:Stmt:=top 2
abbrev vH:Stmt:=top 3
abbrev rU:Stmt:=top 5
abbrev rW:Stmt:=top 6
abbrev mX:Stmt:=top 7
abbrev qt:Stmt:=top 8
abbrev jk:Stmt:=top 9
abbrev pJ:Stmt:=top 10
abbrev tQ:Stmt:=top 11
abbrev mY:Stmt:=top 12
abbrev jL:Stmt:=top 13
abbrev lQ:Stmt:=top 14
abbrev iV:Stmt:=top 15
abbrev rY:Stmt:=top 17
abbrev xV:Stmt:=top 18
abbrev xW:Stmt:=top 19
abbrev mZ:Stmt:=top 20
abbrev lU:Stmt:=top 21
abbrev iy:Stmt:=top 22
abbrev jO:Stmt:=top 23
abbrev rZ:Stmt:=top 24
abbrev vI:Stmt:=top 25
abbrev xX:Stmt:=top 26
abbrev su:Stmt:=top 27
abbrev jV:Stmt:=top 28
abbrev vJ:Stmt:=top 29
abbrev oK:Stmt:=top 30
abbrev lV:Stmt:=top 31
abbrev KR:Stmt:=top 32
abbrev oM:Stmt:=top 33
abbrev ur:Stmt:=top 34
structure Txt (mg:Str->Option Value) (t8:Tok):Prop where
 isi:mg "isinstance" = none
 int:mg "int" = none
 bool:mg "bool" = none
 str:mg "str" = none
 tuple:mg "tuple" = none
 len:mg "len" = none
 all:mg "all" = none
 zip:mg "zip" = none
 set:mg "set" = none
 sorted:mg "sorted" = none
 divmod:mg "divmod" = none
 range:mg "range" = none
 max:mg "max" = none
 min:mg "min" = none
 abs:mg "abs" = none
 list:mg "list" = none
 dict:mg "dict" = none
 any:mg "any" = none
 most:mg "LONGEST_NAME" = some (.int 8 t8)
section
variable {P:Program} {w:World} {K:PySem.W.Frag} {mg:Str->Option Value} {base:Heap} {t8:Tok}
theorem TQ:bG ["thing"] ["thing"] (aA rT):=⟨rfl,rfl,rfl,by decide +kernel,rfl,by decide +kernel,by decide +kernel⟩
theorem PX {f:Addr} {fd:FuncData} (F:nG K "is_whole" "is_whole" rT f fd) (T:Txt mg t8):aX P w K mg base dM 1 f fd ["thing"] (zp K):=by
 refine F.ok TQ (fun vs H Q E h=>?_) (fun cdv A outer s H vs Q E hr h=>?_)
 . obtain ⟨x,rfl,_⟩:=h
   rfl
 . obtain ⟨x,rfl,⟨⟨T',ty⟩,_⟩,q⟩:=h
   refine ⟨_,aH (aZ (Bp (aU oh rfl T.isi PyProof.Rows.boot_isinstance (aj (pV 0) (aj (qH (v:=.ty "int") rfl T.int PyProof.Rows.boot_int rfl) ak)))
     (uN (abd (aU oh rfl T.isi PyProof.Rows.boot_isinstance (aj (pV 0) (aj (qH (v:=.ty "bool") rfl T.bool PyProof.Rows.boot_bool rfl) ak))))))),?_⟩
   obtain ⟨k1,k2,_,_⟩:=yP ty
   have e:=Yp ty
   refine ⟨x,_,_,_,rfl,ty,k1,?_⟩
   cases q1:yO T' "int" with
   | false =>
     rw [q1] at e
     rw [<- e] at q
     exact q
   | true =>
     rw [q1] at e
     refine ⟨x,_,_,_,rfl,ty,k2,?_⟩
     show Q (.bl (!yO T' "bool")) H
     rw [<- e] at q
     simpa using q
theorem YC:bG ["thing"] ["thing"] (aA vH):=⟨rfl,rfl,rfl,by decide +kernel,rfl,by decide +kernel,by decide +kernel⟩
theorem TV {f:Addr} {fd:FuncData} (F:nG K "is_name" "is_name" vH f fd) (T:Txt mg t8):aX P w K mg base dM 1 f fd ["thing"] (Fv K):=by
 refine F.ok YC (fun vs H Q E h=>?_) (fun cdv A outer s H vs Q E hr h=>?_)
 . obtain ⟨x,rfl,_⟩:=h
   rfl
 . obtain ⟨x,rfl,⟨⟨T',ty⟩,hz⟩,q⟩:=h
   refine ⟨_,au (eV (Nv (kW (iY (aU oh rfl T.isi PyProof.Rows.boot_isinstance (aj (pV 0) (aj (qH (v:=.ty "str") rfl T.str PyProof.Rows.boot_str rfl) ak)))))
       (pw_or1 (kW (aeC oLe oLe aD (aU yL rfl T.len PySem.boot_len (aj (pV 0) ak)) (RN (v:=.int 8) rfl T.most ⟨_,rfl⟩))))) (aH (aZ iH)) bO)
     (aH (aZ (aU (jA rfl) rfl T.all PyProof.Rows.boot_all (aj (dJ (g8:=aA vH) (own:=["sign"]) (cap:=[]) (ix:=[]) rfl rfl ⟨rfl,by decide +kernel,by decide +kernel,by decide +kernel,rfl,by decide +kernel⟩
       (XC (pV 0)) (fun b=>aB (i:=0) (show (["sign"]:List Str).Nodup by decide +kernel) rfl (Or.inl rfl)) (fun b=>bU) (fun b=>aeB aa7 aa7 gZ (pV 0) gZ)) ak)))),?_⟩
   obtain ⟨_,_,k3,_⟩:=yP ty
   refine ⟨x,_,_,_,rfl,ty,k3,?_⟩
   cases q1:yO T' "str" with
   | false =>
     have e:BZ x=false:=by cases ty <;> first | rfl | exact absurd q1 (by decide)
     rw [e] at q
     exact q H (Same.refl H)
   | true =>
     obtain ⟨z,rfl⟩:∃ z,x=.str z:=by cases ty <;> first | exact ⟨_,rfl⟩ | exact absurd q1 (by decide)
     have hz':=hz z rfl
     refine ⟨z,rfl,hz',?_⟩
     refine j7 (fun h1=>?_) (fun h1=>?_)
     . have h1':1<=z.length:=by have:=of_decide_eq_true h1; omega
       refine j7 (fun h2=>?_) (fun h2=>?_)
       . have e:BZ (.str z)=false:=by
           have h2':¬ z.length<=8:=by
             intro h
             have:decide ((z.length:Int)<=8)=true:=decide_eq_true (by omega)
             rw [this] at h2; cases h2
           simp [BZ,h2']
         rw [e] at q
         exact q H (Same.refl H)
       . have h2':z.length<=8:=by
           have:¬ ¬ (z.length:Int)<=8:=fun h=>h2 (by rw [decide_eq_false h]; rfl)
           omega
         refine ⟨z,rfl,fun D hD=>Nu (fun i H'=>fB H H' D ((z.cps.toList.take i).map fun c=>V.bl (low c))) (fB.start hD) (fun H' G=>?_) (fun i c H' hc hi G b=>?_)⟩
         . refine ⟨D,z.cps.toList.map low,rfl,dg.of (by rw [G.at',take_all (by simp),List.map_map]; rfl),?_⟩
           have e:BZ (.str z)=(z.cps.toList.map low).all id:=by
             simp [BZ,h1',h2',List.all_map]
           rw [e] at q
           exact q H' G.same
         . have hl:=Yq c
           have sz:z.cps.size<=sizeLine:=hz'
           have fin:∀ (k:Bool),k=low c->Nx z.cps.size i (fun i H'=>fB H H' D ((z.cps.toList.take i).map fun c=>V.bl (low c))) (upd H' D (.lst ((z.cps.toList.take i).map (fun c=>V.bl (low c))++[.bl k]))):=fun k hk=>by
             subst hk
             refine nx hi ?_
             show fB H _ D ((z.cps.toList.take (i+1)).map fun c=>V.bl (low c))
             rw [Ny (Sw hc)]
             exact G.put hD _
           refine j7 (fun h3=>?_) (fun h3=>?_)
           . refine ⟨_,G.at',Br hi sz,fin _ ?_⟩
             have h3':decide (97<=c)=true:=hl.1.symm.trans h3
             show (!decide (("z" : Str).cps.toList<(⟨#[c]⟩:Str).cps.toList))=low c
             rw [hl.2]
             simp [low,of_decide_eq_true h3']
           . refine ⟨_,G.at',Br hi sz,fin _ ?_⟩
             have h3':¬ 97<=c:=fun h=>h3 (hl.1.trans (decide_eq_true h))
             simp [low,h3']
     . have e:BZ (.str z)=false:=by
         have h1':¬ 1<=z.length:=by
           intro h
           exact h1 (decide_eq_true (by omega))
         simp [BZ,h1']
       rw [e] at q
       exact q H (Same.refl H)
theorem P0:bG ["_law_cell"] ["_law_cell"] (aA rY):=⟨rfl,rfl,rfl,by decide +kernel,rfl,by decide +kernel,by decide +kernel⟩
theorem Qa {f:Addr} {fd:FuncData} (F:nG K "_law_mixed" "_law_mixed" rY f fd):aX P w K mg base dM 1 f fd ["_law_cell"] zu:=by
 refine F.ok P0 (fun vs H Q E h=>?_) (fun cdv A outer s H vs Q E hr h=>?_)
 . obtain ⟨c,rfl,_⟩:=h
   rfl
 . obtain ⟨c,rfl,hb,q⟩:=h
   refine ⟨_,(aH (aZ (aY oMod (aY abp (pV 0) aD) (aY aa6 aD aD)))),?_⟩
   refine ⟨IntMulOk.of_le (m:=2000000) (n:=400) hb (by decide +kernel) (by decide),?_⟩
   refine ⟨⟨by decide,by decide,by decide⟩,by show (0:Int)<10 ^ Int.toNat 60; decide +kernel,?_⟩
   exact q _ (Int.emod_nonneg _ (by decide +kernel))
theorem TX:bG ["_law_script","_law_k"] ["_law_script","_law_k"] (aA xV):=⟨rfl,rfl,rfl,by decide +kernel,rfl,by decide +kernel,by decide +kernel⟩
theorem TY {f zG:Addr} {fd CK:FuncData} (F:nG K "_law_pack" "_law_pack" xV f fd) (T:Txt mg t8)
   (Iv:aX P w K mg base dM 1 zG CK ["_law_cell"] zu) (Iw:mg "_law_mixed" = some (.ref zG)) (Iz:PySem.W.keepIn K (.ref zG)=true) (IK:Binds K CK ["_law_cell"] []):aX P w K mg base dM 2 f fd ["_law_script","_law_k"] (zx K):=by
 refine F.ok TX (fun vs H Q E h=>?_) (fun cdv A outer s H vs Q E hr h=>?_)
 . obtain ⟨a,ns,k,rfl,_⟩:=h
   rfl
 . obtain ⟨a,ns,k,rfl,ha,hb,hl,k0,k1,q⟩:=h
   have small:∀ z:Int,0<=z->z<=10000000->Builtin.Int.intBits z<=1048576:=fun z z0 z1=>Nat.le_trans (intBits_le_64 (by omega) (by omega)) (by decide)
   have fin:∀ n:Int,0<=n->rK (cj (tC (.int n)) iI) ([]:St) H Q:=fun n n0=>⟨by show 1<=sizeLine; rw [sizeLine_eq]; decide,fun p hp=>q p _ hp ⟨n,aq,n0⟩ ((Same.refl H).upd hp)⟩
   refine ⟨_,(au (eV (sZ oLt (pV 1) (aU bT rfl T.len PySem.boot_len (aj (pV 0) ak)) (bJ _)) (aH (aZ (fQ (aj (aM Iv hr rfl Iw Iz IK .nil bf (aj (aY gF (cP Eo (pV 0) (pV 1) (fun _ _=>rfl)) (aY XJ aD (pV 1))) ak)) ak)))) bO) (aH (aZ (fQ (aj (aM Iv hr rfl Iw Iz IK .nil bf (aj (aY gF (aY XJ aD (pV 1)) aD) ak)) ak))))),?_⟩
   refine ⟨a,_,rfl,.inl ha,?_⟩
   refine j7 (fun z=>?_) (fun z=>?_)
   . have lt:k<((ns.map V.int).length:Int):=of_decide_eq_true z
     obtain ⟨j,rfl⟩:=Int.eq_ofNat_of_zero_le k0
     rw [List.length_map] at lt
     have hj:ns[j]?=some ns[j]:=List.getElem?_eq_getElem (by omega)
     refine abe ha (v:=.int ns[j]) (gQ (by rw [List.getElem?_map,hj]; rfl)) ?_
     refine ⟨.inl ⟨by decide,by decide⟩,?_⟩
     have b1:=intBits_add_le (hb ns[j] (List.mem_of_getElem? hj)) (small (23 * (j:Int)) (by omega) (by omega))
     refine ⟨_,rfl,Nat.le_trans b1 (by decide),fun n n0=>?_⟩
     exact fin n n0
   . refine ⟨.inl ⟨by decide,by decide⟩,?_⟩
     refine ⟨_,rfl,Nat.le_trans (small (5099 * k+7) (by omega) (by omega)) (by decide),fun n n0=>?_⟩
     exact fin n n0
theorem IV:bG ["_law_pack_here","_law_size","_law_digit"] ["_law_pack_here","_law_size"] (aA xW):=⟨rfl,rfl,rfl,by decide +kernel,rfl,by decide +kernel,by decide +kernel⟩
theorem T3 {f:Addr} {fd:FuncData} (F:nG K "_law_take" "_law_take" xW f fd) (T:Txt mg t8):aX P w K mg base dM 1 f fd ["_law_pack_here","_law_size"] mR:=by
 refine F.ok IV (fun vs H Q E h=>?_) (fun cdv A outer s H vs Q E hr h=>?_)
 . obtain ⟨p,m,rfl,_⟩:=h
   rfl
 . obtain ⟨p,m,rfl,⟨n,hp,n0⟩,m0,m1,q⟩:=h
   refine ⟨_,(au (kY (aU Bc rfl T.divmod PyProof.Rows.boot_divmod (aj (cP Eo (pV 0) aD (fun _ _=>rfl)) (aj (pV 1) ak))) (cT rfl (aG (W6 (pV 0) aD aeI) (aG (aB (i:=2) IV.nd rfl (Or.inl rfl)) bR)))) (aH (aZ (pV 2)))),?_⟩
   refine qM hp (i:=0) (by rfl) ?_
   refine ⟨n,m,rfl,⟨m0,m1⟩,fun t ht=>?_⟩
   have ne:p≠t:=aN hp ht
   refine ⟨t,_,rfl,bM.of aq,rfl,_,_,rfl,?_⟩
   refine setAt (j:=0) (show upd H t (.tup [.int (n / m),.int (n % m)]) p=some (.lst [.int n]) by rw [aL ne]; exact hp) (by rfl) ?_
   refine ⟨_,_,rfl,rfl,?_⟩
   refine q _ _ (Int.emod_nonneg n (by omega)) (Int.emod_lt_of_pos n m0) ⟨n / m,aq,Int.ediv_nonneg n0 (by omega)⟩ ?_
   exact ((aP.of (Same.refl H)).new ht).upd
theorem lW:bG ["_law_pack_here","_law_amount","_law_letters_here","_law_turn","_law_pick","_law_size"] ["_law_pack_here","_law_amount"] (aA mZ):=⟨rfl,rfl,rfl,by decide +kernel,rfl,by decide +kernel,by decide +kernel⟩
theorem Qc {f dG:Addr} {fd dU:FuncData} (F:nG K "_law_names" "_law_names" mZ f fd) (T:Txt mg t8)
   (cH:aX P w K mg base dM 1 dG dU ["_law_pack_here","_law_size"] mR) (cI:mg "_law_take" = some (.ref dG)) (cJ:PySem.W.keepIn K (.ref dG)=true) (cL:Binds K dU ["_law_pack_here","_law_size"] []):aX P w K mg base dM 2 f fd ["_law_pack_here","_law_amount"] zB:=by
 refine F.ok lW (fun vs H Q E h=>?_) (fun cdv A outer s H vs Q E hr h=>?_)
 . obtain ⟨p,rfl,_⟩:=h
   rfl
 . obtain ⟨p,rfl,hp,q⟩:=h
   have mJ:sizeLine=16777216:=sizeLine_eq
   refine ⟨_,(au (aV (i:=2) lW.nd rfl (Or.inr rfl) gZ) (au (aV (i:=3) lW.nd rfl (Or.inl rfl) (aM cH hr rfl cI cJ cL .nil bf (aj (pV 0) (aj aD ak)))) (au (aV (i:=2) lW.nd rfl (Or.inr rfl) (aY XQ (gR SJ (pV 2) (J7 (pV 3)) mG) (gR SJ (pV 2) mG (J7 (pV 3))))) (au (aV (i:=4) lW.nd rfl (Or.inl rfl) (aM cH hr rfl cI cJ cL .nil bf (aj (pV 0) (aj aD ak)))) (au (aV (i:=5) lW.nd rfl (Or.inr rfl) (aM cH hr rfl cI cJ cL .nil bf (aj (pV 0) (aj aD ak)))) (au (eV (sZ oEq (pV 4) aD (bJ _)) (aH (aZ (dJ (g8:=aA mZ) (own:=["_law_k"]) (cap:=["_law_letters_here"]) (ix:=[2]) rfl rfl ⟨rfl,by decide +kernel,by decide +kernel,by decide +kernel,rfl,by decide +kernel⟩ (fP rfl T.range (aj (pV 1) ak)) (fun b=>(aB (i:=0) (show (["_law_k","_law_letters_here"]:List Str).Nodup by decide +kernel) rfl (Or.inl rfl))) (fun b=>bU) (fun b=>(aY SN (cP XR (pV 1) (aY oDiv (pV 0) aD) (fun _ _=>rfl)) (aY gF aD (aY oMod (pV 0) aD))))))) bO) (au (eV (sZ oEq (pV 4) aD (bJ _)) (aH (aZ (dJ (g8:=aA mZ) (own:=["_law_k"]) (cap:=["_law_letters_here","_law_size"]) (ix:=[2,5]) rfl rfl ⟨rfl,by decide +kernel,by decide +kernel,by decide +kernel,rfl,by decide +kernel⟩ (fP rfl T.range (aj (pV 1) ak)) (fun b=>(aB (i:=0) (show (["_law_k","_law_letters_here","_law_size"]:List Str).Nodup by decide +kernel) rfl (Or.inl rfl))) (fun b=>bU) (fun b=>(aY XQ (cP XR (pV 1) (aY oMod (pV 0) aD) (fun _ _=>rfl)) (gR SJ (pV 1) (J7 aD) (J7 (aY gF aD (pV 2))))))))) bO) (aH (aZ (dJ (g8:=aA mZ) (own:=["_law_k"]) (cap:=["_law_letters_here","_law_size"]) (ix:=[2,5]) rfl rfl ⟨rfl,by decide +kernel,by decide +kernel,by decide +kernel,rfl,by decide +kernel⟩ (fP rfl T.range (aj (pV 1) ak)) (fun b=>(aB (i:=0) (show (["_law_k","_law_letters_here","_law_size"]:List Str).Nodup by decide +kernel) rfl (Or.inl rfl))) (fun b=>bU) (fun b=>(aY XQ (gR SJ (pV 1) (J7 aD) (J7 (aY gF aD (pV 2)))) (cP XR (pV 1) (aY oMod (pV 0) aD) (fun _ _=>rfl)))))))))))))),?_⟩
   refine ⟨p,26,rfl,hp,by decide,by decide,fun t H1 t0 t1 hp1 s1=>?_⟩
   obtain ⟨t,rfl⟩:=Int.eq_ofNat_of_zero_le t0
   have ht:t<26:=by omega
   have la:abc.length<=sizeLine:=by rw [zA]; omega
   refine Ia (z:=abc) la ?_
   refine Ia (z:=abc) la ?_
   have rt:=O2 (t:=t) (by omega)
   refine ⟨by
     have z1:=PySem.Txt.slice_le abc (some (t:Int)) none
     have z2:=PySem.Txt.slice_le abc none (some (t:Int))
     rw [zA] at z1 z2
     omega,?_⟩
   generalize PySem.Txt.slice abc (some (t:Int)) none++PySem.Txt.slice abc none (some (t:Int))=R at rt
   have lR:R.length=26:=by rw [<- len_list,rt]; exact uE (by omega)
   refine ⟨p,3,rfl,hp1,by decide,by decide,fun pk H2 p0 p1 hp2 s2=>?_⟩
   obtain ⟨pick,rfl⟩:=Int.eq_ofNat_of_zero_le p0
   refine ⟨p,8,rfl,hp2,by decide,by decide,fun sz H3 z0 z1 hp3 s3=>?_⟩
   obtain ⟨size,rfl⟩:=Int.eq_ofNat_of_zero_le z0
   have Qd:aP p H H3:=(s1.trans s2).trans s3
   obtain ⟨ok1,ok2⟩:=Kz (t:=t) (sz:=size) (pick:=pick) ht (by omega) (by omega)
   have ok3:=O1 (t:=t) (sz:=size) (pick:=pick) ht (by omega) (by omega)
   have fin:∀ (D:Addr) (H':Hp),H3 D=none->fB H3 H' D ((fK t size pick).map V.str)->Q (.ref D) H':=fun D H' hD G=>by
     refine q D (fK t size pick) H' ?_ G.at' (by unfold fK; rw [List.length_map,List.length_range]) ok1 ok2 ok3 (by obtain ⟨n,e,n0⟩:=hp3; exact ⟨n,G.same _ _ e,n0⟩) (Qd.trans (aP.of G.same))
     cases e:H D with
     | none=>rfl
     | some o =>
       have nD:D≠p:=fun z=>by
         obtain ⟨n,e',_⟩:=hp3
         rw [<- z,hD] at e'; cases e'
       have:=Qd D o nD e
       rw [hD] at this; cases this
   have step:∀ (i:Nat),i<12->(fK t size pick).take (i+1)=(fK t size pick).take i++[nameS t size pick i]:=fun i hi=>by
     have e:(fK t size pick)[i]?=some (nameS t size pick i):=by unfold fK; rw [List.getElem?_map,List.getElem?_range hi]; rfl
     rw [List.take_add_one,e]; rfl
   have amE:(fK t size pick).length=12:=by unfold fK; rw [List.length_map,List.length_range]
   have put:∀ (i:Nat) (D:Addr) (H':Hp) (z:Str),i<12->H3 D=none->fB H3 H' D (((fK t size pick).take i).map V.str)->z.cps.toList=qQ t size pick i->∃ zs,H' D=some (.lst zs)/\zs.length<sizeLine/\Nx 12 i (fun i H'=>fB H3 H' D (((fK t size pick).take i).map V.str)) (upd H' D (.lst (zs++[.str z]))):=fun i D H' z hi hD G ez=>by
     refine ⟨_,G.at',by rw [List.length_map,List.length_take]; omega,nx hi ?_⟩
     show fB H3 _ D (((fK t size pick).take (i+1)).map V.str)
     have ez':z=nameS t size pick i:=by
       cases z with
       | mk c=>unfold nameS; congr 1; rw [<- ez]
     rw [step i hi,List.map_append,ez']
     exact G.put hD _
   have all:((fK t size pick).take 12).map V.str=(fK t size pick).map V.str:=by rw [List.take_of_length_le (by omega)]
   have abx:(PySem.Txt.slice R (some 4) (some (4+(size:Int)))).cps.toList=((OJ t).drop 4).take size:=by
     have e:PySem.Txt.slice R (some ((4:Nat):Int)) (some ((4+size:Nat):Int))=_:=J6 R 4 (4+size)
     have e2:PySem.Txt.slice R (some 4) (some (4+(size:Int)))=⟨((R.cps.toList.take (4+size)).drop 4).toArray⟩:=e
     rw [e2,rt,List.drop_take]
     simp
   have amG:(PySem.Txt.slice R (some 4) (some (4+(size:Int)))).length<=26:=by rw [<- lR]; exact PySem.Txt.slice_le R _ _
   refine j7 (fun c1=>?_) (fun c1=>?_)
   . have pk0:pick=0:=by have:=of_decide_eq_true c1; omega
     refine ⟨12,rfl,by decide,by decide,fun D hD=>qj (lo:=0) (n:=12) (fun i H'=>fB H3 H' D (((fK t size pick).take i).map V.str)) (fB.start hD) (fun H' G=>fin D H' hD (by rw [<- all]; exact G)) (fun i H' hi G b=>?_)⟩
     refine ⟨⟨by decide,by decide⟩,?_⟩
     refine Nz (z:=R) (by omega) (by rw [rt]; exact vp (by omega) (by rw [uE (by omega)]; omega)) ?_
     refine ⟨by show (0:Int)<8; decide,?_⟩
     refine ⟨_,_,rfl,rfl,by omega,by omega,?_⟩
     refine put i D H' _ hi hD G ?_
     subst pk0
     unfold qQ
     rw [if_pos rfl]
     show List.replicate _ _=_
     congr 1
     . omega
     . congr 1; omega
   . refine j7 (fun c2=>?_) (fun c2=>?_)
     . have pk1:pick=1:=by have:=of_decide_eq_true c2; omega
       refine ⟨12,rfl,by decide,by decide,fun D hD=>qj (lo:=0) (n:=12) (fun i H'=>fB H3 H' D (((fK t size pick).take i).map V.str)) (fB.start hD) (fun H' G=>fin D H' hD (by rw [<- all]; exact G)) (fun i H' hi G b=>?_)⟩
       refine ⟨by show (0:Int)<26; decide,?_⟩
       refine Nz (z:=R) (by omega) (by rw [rt]; exact vp (by omega) (by rw [uE (by omega)]; omega)) ?_
       refine Ia (z:=R) (by omega) ?_
       refine ⟨by show 1+_<=sizeLine; omega,?_⟩
       refine put i D H' _ hi hD G ?_
       subst pk1
       rw [app_list,abx]
       unfold qQ
       rw [if_neg (by decide),if_pos rfl]
       have ei:((0+(i:Int)) % 26).toNat=i % 26:=by omega
       show (OJ t).getD ((0+(i:Int)) % 26).toNat 0 :: _=_
       rw [ei]
       rfl
     . have pk2:pick≠0/\pick≠1:=⟨fun e=>c1 (decide_eq_true (by rw [e]; rfl)),fun e=>c2 (decide_eq_true (by rw [e]; rfl))⟩
       refine ⟨12,rfl,by decide,by decide,fun D hD=>qj (lo:=0) (n:=12) (fun i H'=>fB H3 H' D (((fK t size pick).take i).map V.str)) (fB.start hD) (fun H' G=>fin D H' hD (by rw [<- all]; exact G)) (fun i H' hi G b=>?_)⟩
       refine Ia (z:=R) (by omega) ?_
       refine ⟨by show (0:Int)<26; decide,?_⟩
       refine Nz (z:=R) (by omega) (by rw [rt]; exact vp (by omega) (by rw [uE (by omega)]; omega)) ?_
       refine ⟨by show _+1<=sizeLine; omega,?_⟩
       refine put i D H' _ hi hD G ?_
       rw [app_list,abx]
       unfold qQ
       rw [if_neg pk2.1,if_neg pk2.2]
       congr 1
       show [_]=[_]
       congr 2; omega
end
end mW
namespace mW
open PySem L2 gY
def offs (rs:List Row) (m:Str->Int):List Int:=rs.map fun r=>r.2-m r.1
def cF (rs:List Row) (d:Int) (m:Str->Int):Bool:=decide (∀ a∈offs rs m,∀ b∈offs rs m,a-b<=d)
def jd (h:aJ) (m:Str->Int) (r:Row):Bool:=decide (h.low<=r.2-m r.1) && decide (r.2-m r.1<=h.high)
def gU (m:Str->Int) (p:Str × Str):Bool:=decide (1<=m p.2-m p.1)
def fM (h:aJ) (m:Str->Int):Bool:=(bL h).all (jd h m) && (((aR h).zip ((aR h).drop 1)).all (gU m) && h.runs.all fun r=>cF r h.aK m)
def gk (l:Letter) (m:Str->Int):Bool:=decide (l.2.1<=m l.1.2-m l.1.1) && (match l.2.2 with | none=>true | some z=>decide (m l.1.2-m l.1.1<=z))
def cR (hs:List aJ) (ls:List Letter) (m:Str->Int):Bool:=hs.all (fun h=>fM h m) && ls.all fun l=>gk l m
def je (m:Str->Int):List Str->Bool
 | a :: b :: r=>gU m (a,b) && je m (b :: r)
 | _=>true
theorem IW (m:Str->Int):∀ l:List Str,(l.zip (l.drop 1)).all (gU m)=je m l
 | []=>rfl
 | [_]=>rfl
 | a :: b :: r=>by
   have z:=IW m (b :: r)
   show (gU m (a,b) && ((b :: r).zip r).all (gU m))=(gU m (a,b) && je m (b :: r))
   rw [<- z]; rfl
theorem lX (m:Str->Int):∀ (l:List Str) (n:Str),je m (l++[n])=(je m l && (match l.getLast? with | none=>true | some a=>gU m (a,n)))
 | [],n=>rfl
 | [a],n=>by simp [je]
 | a :: b :: r,n=>by
   have z:=lX m (b :: r) n
   show (gU m (a,b) && je m ((b :: r)++[n]))=_
   rw [z,List.getLast?_cons_cons]
   show _=(gU m (a,b) && je m (b :: r) && _)
   rw [Bool.and_assoc]
theorem zH (m:Str->Int):∀ (l r:List Str),je m (l++r)=true->je m l=true
 | [],_,_=>rfl
 | [a],_,_=>rfl
 | a :: b :: l,r,h=>by
   have h':(gU m (a,b) && je m ((b :: l)++r))=true:=h
   obtain ⟨h1,h2⟩:=Bool.and_eq_true_iff.mp h'
   exact Bool.and_eq_true_iff.mpr ⟨h1,zH m (b :: l) r h2⟩
def qX (d:Int) (m:Str->Int) (r q:Row):Bool:=decide ((q.2-m q.1)-(r.2-m r.1)<=d) && decide (0-d<=(q.2-m q.1)-(r.2-m r.1))
theorem Gb {rs:List Row} {r:Row} {d:Int} {m:Str->Int} (d0:0<=d) (h:cF rs d m=true) (hp:∀ q∈rs,qX d m r q=true):cF (rs++[r]) d m=true:=by
 unfold cF at h ⊢
 have h':=of_decide_eq_true h
 refine decide_eq_true fun a ha b hb=>?_
 have pr:∀ q∈rs,(q.2-m q.1)-(r.2-m r.1)<=d/\0-d<=(q.2-m q.1)-(r.2-m r.1):=fun q hq=>by
   have z:=hp q hq
   unfold qX at z
   obtain ⟨z1,z2⟩:=Bool.and_eq_true_iff.mp z
   exact ⟨of_decide_eq_true z1,of_decide_eq_true z2⟩
 unfold offs at ha hb h'
 rw [List.map_append] at ha hb
 rcases List.mem_append.mp ha with ha | ha
 . rcases List.mem_append.mp hb with hb | hb
   . exact h' a ha b hb
   . obtain ⟨q,hq,rfl⟩:=List.mem_map.mp ha
     have:=pr q hq
     have e:b=r.2-m r.1:=by simpa using hb
     omega
 . have e:a=r.2-m r.1:=by simpa using ha
   rcases List.mem_append.mp hb with hb | hb
   . obtain ⟨q,hq,rfl⟩:=List.mem_map.mp hb
     have:=pr q hq
     omega
   . have e2:b=r.2-m r.1:=by simpa using hb
     omega
theorem Qe {rs:List Row} {r q:Row} {d:Int} {m:Str->Int} (hr:r∈rs) (hq:q∈rs) (h:qX d m r q=false):cF rs d m=false:=by
 cases e:cF rs d m with
 | false=>rfl
 | true =>
   unfold cF at e
   have h':=of_decide_eq_true e
   have z1:=h' _ (List.mem_map_of_mem (f:=fun r=>r.2-m r.1) hq) _ (List.mem_map_of_mem (f:=fun r=>r.2-m r.1) hr)
   have z2:=h' _ (List.mem_map_of_mem (f:=fun r=>r.2-m r.1) hr) _ (List.mem_map_of_mem (f:=fun r=>r.2-m r.1) hq)
   unfold qX at h
   simp only [Bool.and_eq_false_iff,decide_eq_false_iff_not] at h
   omega
theorem jW {hs:List aJ} {ls:List Letter} {m:Str->Int} {h:aJ} (hh:h∈hs) (e:fM h m=false):cR hs ls m=false:=by
 cases z:cR hs ls m with
 | false=>rfl
 | true =>
   have z1:=(Bool.and_eq_true_iff.mp z).1
   rw [List.all_eq_true.mp z1 h hh] at e
   cases e
theorem cA {h:aJ} {m:Str->Int}:fM h m=true↔(∀ r∈bL h,jd h m r=true)/\je m (aR h)=true/\∀ r∈h.runs,cF r h.aK m=true:=by
 unfold fM
 rw [Bool.and_eq_true,Bool.and_eq_true,IW,List.all_eq_true,List.all_eq_true]
theorem qY {h:aJ} {m:Str->Int} (n:¬ ((∀ r∈bL h,jd h m r=true)/\je m (aR h)=true/\∀ r∈h.runs,cF r h.aK m=true)):fM h m=false:=by
 cases z:fM h m with
 | false=>rfl
 | true=>exact absurd (cA.mp z) n
theorem tU {hs:List aJ} {ls:List Letter} {m:Str->Int} {l:Letter} (hl:l∈ls) (e:gk l m=false):cR hs ls m=false:=by
 cases z:cR hs ls m with
 | false=>rfl
 | true =>
   have z1:=(Bool.and_eq_true_iff.mp z).2
   rw [List.all_eq_true.mp z1 l hl] at e
   cases e
def intOf:V->Int
 | .int i=>i
 | _=>0
def gW (kvs:List (Key × V)) (n:Str):Int:=match dW kvs (.inr n) with | some v=>intOf v | none=>0
theorem Ja {kvs:List (Key × V)} {n:Str} {i:Int} (h:dW kvs (.inr n)=some (.int i)):gW kvs n=i:=by unfold gW; rw [h]; rfl
theorem CN {kvs:List (Key × V)} {n x:Str} {i:Int}:gW (putK kvs (.inr n) (.int i)) x=if x=n then i else gW kvs x:=by
 unfold gW
 rw [qJ]
 by_cases e:x=n
 . rw [if_pos e,if_pos (by rw [e])]; rfl
 . rw [if_neg e,if_neg (fun z=>e (Sum.inr.inj z))]
theorem KY {a b:List (Key × V)} {n:Str} {i:Int} (h:dW a (.inr n)=some (.int i)):gW (a++b) n=gW a n:=by
 unfold gW; rw [vC,h]; rfl
theorem KZ {a b:List (Key × V)} {n:Str} (h:dW a (.inr n)=none):gW (a++b) n=gW b n:=by
 unfold gW; rw [vC,h]; rfl
theorem vK {m m':Str->Int}:∀ {l:List Str},(∀ n∈l,m n=m' n)->je m l=je m' l
 | [],_=>rfl
 | [_],_=>rfl
 | a :: b :: r,h=>by
   show (gU m (a,b) && je m (b :: r))=(gU m' (a,b) && je m' (b :: r))
   rw [vK (l:=b :: r) fun n hn=>h n (List.mem_cons_of_mem _ hn)]
   unfold gU
   rw [h a List.mem_cons_self,h b (List.mem_cons_of_mem _ List.mem_cons_self)]
theorem Qf {m m':Str->Int} {rs:List Row} (h:∀ r∈rs,m r.1=m' r.1):offs rs m=offs rs m':=by
 unfold offs
 exact List.map_congr_left fun r hr=>by rw [h r hr]
theorem vM {m m':Str->Int} {rs:List Row} {d:Int} (h:∀ r∈rs,m r.1=m' r.1):cF rs d m=cF rs d m':=by
 unfold cF; rw [Qf h]
theorem xY {h:aJ} {m m':Str->Int} (e:∀ n∈aR h,m n=m' n):fM h m=fM h m':=by
 rw [Bool.eq_iff_iff,cA,cA,vK e]
 have er:∀ r∈bL h,m r.1=m' r.1:=fun r hr=>e _ (List.mem_map_of_mem hr)
 have ed:∀ r∈h.runs,cF r h.aK m=cF r h.aK m':=fun r hr=>vM fun q hq=>er q (List.mem_flatten.mpr ⟨r,hr,hq⟩)
 have e2:∀ r∈bL h,jd h m r=jd h m' r:=fun r hr=>by unfold jd; rw [er r hr]
 exact ⟨fun ⟨a,b,c⟩=>⟨fun r hr=>(e2 r hr) ▸ a r hr,b,fun r hr=>(ed r hr) ▸ c r hr⟩,fun ⟨a,b,c⟩=>⟨fun r hr=>(e2 r hr).symm ▸ a r hr,b,fun r hr=>(ed r hr).symm ▸ c r hr⟩⟩
theorem uJ {hs:List aJ} {ls:List Letter} {m:Str->Int} (h:∀ k∈hs,fM k m=true) (l:∀ k∈ls,gk k m=true):cR hs ls m=true:=by
 unfold cR
 rw [Bool.and_eq_true,List.all_eq_true,List.all_eq_true]
 exact ⟨h,l⟩
theorem CP {one other:Str} {m:Str->Int} {g1 g2 lst:Int} {mo:Option Int} (e1:m one=g1) (e2:m other=g2) (h1:lst<=g2-g1) (h2:∀ x,mo=some x->g2-g1<=x):gk ((one,other),lst,mo) m=true:=by
 unfold gk
 dsimp only
 rw [e1,e2,decide_eq_true h1]
 cases mo with
 | none=>rfl
 | some x=>exact decide_eq_true (h2 x rfl)
def DY (low wide aK off:Int) (M:Str->Int) (mo:Int) (runs:List (List Row)) (rs:List Row):Prop :=
 (∀ r∈runs.flatten++rs,low<=r.2-M r.1/\r.2-M r.1<=low+wide/\M r.1<=mo/\-20<=M r.1)/\je M ((runs.flatten++rs).map Prod.fst)=true/\(∀ r∈runs,cF r aK M=true) /\
 ∀ r∈rs,r.2-M r.1=off∨(r.2-M r.1=off+1/\0<aK/\off+1<=low+wide)
def zJ (low wide aK off mo:Int) (rd:Int):Prop:=rd=mo+off∨(rd=mo+off+1/\0<aK/\off+1<=low+wide)
section
variable {low wide aK off mo:Int} {M:Str->Int} {runs:List (List Row)} {rs:List Row}
theorem Qg:DY low wide aK off M mo [] []:=⟨fun r hr=>by simp at hr,rfl,fun r hr=>by simp at hr,fun r hr=>by simp at hr⟩
theorem Jb {o:Int} (h:DY low wide aK off M mo runs []):DY low wide aK o M mo runs []:=⟨h.1,h.2.1,h.2.2.1,fun r hr=>by simp at hr⟩
theorem CQ {CV:Int} (h:DY low wide aK off M mo runs rs) (l:mo<=CV):DY low wide aK off M CV runs rs:=⟨fun r hr=>by have:=h.1 r hr; omega,h.2⟩
theorem Qh (h:DY low wide aK off M mo runs rs) (d0:0<=aK):cF rs aK M=true:=by
 unfold cF offs
 refine decide_eq_true fun a ha b hb=>?_
 obtain ⟨r,hr,rfl⟩:=List.mem_map.mp ha
 obtain ⟨q,hq,rfl⟩:=List.mem_map.mp hb
 have:=h.2.2.2 r hr
 have:=h.2.2.2 q hq
 omega
theorem Qi {o:Int} (h:DY low wide aK off M mo runs rs) (d0:0<=aK):DY low wide aK o M mo (runs++[rs]) []:=by
 have e:(runs++[rs]).flatten++[]=runs.flatten++rs:=by simp
 refine ⟨by rw [e]; exact h.1,by rw [e]; exact h.2.1,fun r hr=>?_,fun r hr=>by simp at hr⟩
 rcases List.mem_append.mp hr with z | z
 . exact h.2.2.1 r z
 . rw [List.mem_singleton.mp z]; exact Qh h d0
theorem YD {kvs:List (Key × V)} {n:Str} {rd CV:Int} (h:DY low wide aK off (gW kvs) mo runs rs) (lt:mo+1<=CV) (l20:-20<=CV) (nn:n ∉ (runs.flatten++rs).map Prod.fst) (ok:zJ low wide aK off CV rd) (o0:low<=off) (o1:off<=low+wide):DY low wide aK off (gW (putK kvs (.inr n) (.int CV))) CV runs (rs++[(n,rd)]):=by
 have ne:∀ r∈runs.flatten++rs,gW (putK kvs (.inr n) (.int CV)) r.1=gW kvs r.1:=fun r hr=>by
   rw [CN,if_neg fun z=>nn (List.mem_map.mpr ⟨r,hr,z⟩)]
 have nw:gW (putK kvs (.inr n) (.int CV)) n=CV:=by rw [CN,if_pos rfl]
 generalize gW (putK kvs (.inr n) (.int CV))=M' at ne nw
 refine ⟨fun r hr=>?_,?_,fun r hr=>?_,fun r hr=>?_⟩
 . rw [<- List.append_assoc] at hr
   rcases List.mem_append.mp hr with z | z
   . have:=h.1 r z; rw [ne r z]; omega
   . rw [List.mem_singleton.mp z]; show low<=rd-M' n/\rd-M' n<=low+wide/\M' n<=CV/\-20<=M' n; rw [nw]; unfold zJ at ok; omega
 . rw [<- List.append_assoc,List.map_append]
   show je M' (_++[n])=true
   rw [lX,vK (m':=gW kvs) (fun x hx=>by obtain ⟨r,hr,rfl⟩:=List.mem_map.mp hx; exact ne r hr),h.2.1,Bool.true_and]
   cases e:((runs.flatten++rs).map Prod.fst).getLast? with
   | none=>rfl
   | some a =>
     obtain ⟨r,hr,rfl⟩:=List.mem_map.mp (List.mem_of_getLast? e)
     have:=h.1 r hr
     show decide (1<=M' n-M' r.1)=true
     rw [nw,ne r hr]
     exact decide_eq_true (by omega)
 . rw [vM fun q hq=>ne q (List.mem_append_left _ (List.mem_flatten.mpr ⟨r,hr,hq⟩))]; exact h.2.2.1 r hr
 . rcases List.mem_append.mp hr with z | z
   . rw [ne r (List.mem_append_right _ z)]; exact h.2.2.2 r z
   . rw [List.mem_singleton.mp z]; show rd-M' n=off∨_; rw [nw]; unfold zJ at ok; omega
theorem T4 {r:Row} {d rd:Int} (h:DY low wide aK off M mo runs rs) (hr:r∈rs) (d0:0<=d) (ok:zJ low wide aK off (mo+1+d) rd) (le:rd<=r.2):zJ low wide aK off (mo+1+d) (r.2+1):=by
 have:=h.1 r (List.mem_append_right _ hr)
 have:=h.2.2.2 r hr
 unfold zJ at ok ⊢
 omega
theorem T5 (h:DY low wide aK off M mo runs []) (l0:-20<=low) (l1:low<=20) (w0:0<=wide) (w1:wide<=300) (m1:mo<=660):∀ r∈runs.flatten,-1000<=r.2/\r.2<=1000:=fun r hr=>by
 have:=h.1 r (List.mem_append_left _ hr)
 omega
theorem YF {nm:Str} (h:DY low wide aK off M mo runs []):fM ⟨nm,low,low+wide,aK,runs⟩ M=true:=by
 have e:runs.flatten++[]=runs.flatten:=by simp
 have h1:=h.1
 have h2:=h.2.1
 rw [e] at h1 h2
 refine cA.mpr ⟨fun r hr=>?_,h2,h.2.2.1⟩
 have:=h1 r hr
 unfold jd
 rw [Bool.and_eq_true]
 exact ⟨decide_eq_true this.1,decide_eq_true this.2.1⟩
end
end mW
namespace mW
open PySem L2 gY
structure GoodW (h:aJ):Prop extends cD h where
 narrow:h.high-h.low<=300
 ae2:-1000<=h.low
 abz:h.high<=1000
 near:∀ r∈bL h,-1000<=r.2/\r.2<=1000
def sy:Sp:=fun vs H Q _=>∃ (p:Addr) (nm:Str) (ln:Addr) (ss:List Str) (room:Int),vs=[.ref p,.str nm,.ref ln,.int room]/\bD H p/\Good nm/\H ln=some (.lst (ss.map V.str))/\ss.length<=12/\ss.Nodup/\(∀ s∈ss,Good s) /\
 ∀ (r d:Addr) (hv:V) (h:aJ) (kvs:List (Key × V)) (m:Nat) (H':Hp),H r=none->H d=none->H' r=some (.tup [hv,.ref d])->fj H' hv h->GoodW h->h.name=nm->aR h=ss.take m->m<=ss.length->((m:Int)<=room∨m=0) ->
   H' d=some (.dK kvs)->kvs.map (·.1)=(ss.take m).map Sum.inr->(∀ n∈ss.take m,∃ i:Int,dW kvs (.inr n)=some (.int i))->bD H' p->aP p H H'->fM h (gW kvs)=true->Q (.ref r) H'
def zK (mo:Int) (m i:Nat):Prop:=-20<=mo/\mo<=60+40 * (m:Int)+5 * (i:Int)
def PwA (p ln R D:Addr) (nm:Str) (room low wide aK:Int) (H:Hp) (ss:List Str):Nat->St->Hp->Prop:=fun i σ H'=>∃ (mo:Int) (m:Nat) (vr:List V) (kvs:List (Key × V)) (runs:List (List Row)) (jc iC iU iG iZ:Option V),σ=[some (.ref p),some (.str nm),some (.ref ln),some (.int room),some (.int low),some (.int wide),some (.int aK),some (.int mo),some (.ref R),some (.ref D),some (.int (m:Int)),jc,iC,iU,iG,iZ]/\HS H p R D ss room H' vr kvs runs m/\runs.flatten.map Prod.fst=ss.take m/\runs.length<=i/\DY low wide aK 0 (gW kvs) mo runs []/\zK mo m i
def PwB (p ln R D L:Addr) (nm:Str) (room low wide aK FN:Int) (H:Hp) (ss:List Str) (i:Nat) (vr:List V) (runs:List (List Row)):Nat->St->Hp->Prop:=fun j σ jT=>∃ (mo:Int) (m:Nat) (kvs:List (Key × V)) (vl:List V) (rs:List Row) (iG iZ:Option V),σ=[some (.ref p),some (.str nm),some (.ref ln),some (.int room),some (.int low),some (.int wide),some (.int aK),some (.int mo),some (.ref R),some (.ref D),some (.int (m:Int)),some (.int (0+(i:Int))),some (.int (low+FN)),some (.ref L),iG,iZ]/\HS H p R D ss room jT vr kvs runs m/\jT L=some (.lst vl)/\Paired (dZ jT) vl rs/\(runs.flatten++rs).map Prod.fst=ss.take m/\rs.length<=j/\(rs.map Prod.snd).Pairwise (·<·)/\DY low wide aK (low+FN) (gW kvs) mo runs rs/\zK mo m i
section
variable {P:Program} {w:World} {K:PySem.W.Frag} {mg:Str->Option Value} {base:Heap} {t8:Tok}
theorem bQ:bG ["_law_pack_here","_law_name","_law_names_here","_law_room","_law_low","_law_wide","_law_drift","_law_moment","_law_runs","_law_hidden","_law_at","_law_turn","_law_off","_law_rows_here","_law_step","_law_reading"] ["_law_pack_here","_law_name","_law_names_here","_law_room"] (aA lU):=⟨rfl,rfl,rfl,by decide +kernel,rfl,by decide +kernel,by decide +kernel⟩
theorem Gd {f dG:Addr} {fd dU:FuncData} (F:nG K "_law_house" "_law_house" lU f fd) (T:Txt mg t8)
   (cH:aX P w K mg base dM 1 dG dU ["_law_pack_here","_law_size"] mR) (cI:mg "_law_take" = some (.ref dG)) (cJ:PySem.W.keepIn K (.ref dG)=true) (cL:Binds K dU ["_law_pack_here","_law_size"] []):aX P w K mg base dM 2 f fd ["_law_pack_here","_law_name","_law_names_here","_law_room"] sy:=by
 refine F.ok bQ (fun vs H Q E h=>?_) (fun cdv A outer s H vs Q E hr h=>?_)
 . obtain ⟨p,nm,ln,ss,room,rfl,_⟩:=h
   rfl
 . obtain ⟨p,nm,ln,ss,room,rfl,hp,gn,YG,few,nd,gs,q⟩:=h
   have mJ:sizeLine=16777216:=sizeLine_eq
   have nln:ln≠p:=fun z=>by
     obtain ⟨n,e,_⟩:=hp
     rw [z,e] at YG
     cases ss with
     | nil=>cases YG
     | cons s ss=>cases YG
   refine ⟨_,(au (aV (i:=4) bQ.nd rfl (Or.inl rfl) (aY jB (aM cH hr rfl cI cJ cL .nil bf (aj (pV 0) (aj aD ak))) aD)) (au (aV (i:=5) bQ.nd rfl (Or.inl rfl) (cP Eo (fQ (aj aD (aj aD (aj aD (aj aD ak))))) (aM cH hr rfl cI cJ cL .nil bf (aj (pV 0) (aj aD ak))) (fun _ _=>rfl))) (au (aV (i:=6) bQ.nd rfl (Or.inl rfl) (cP Eo (fQ (aj aD (aj aD (aj aD (aj aD ak))))) (aM cH hr rfl cI cJ cL .nil bf (aj (pV 0) (aj aD ak))) (fun _ _=>rfl))) (au (aV (i:=7) bQ.nd rfl (Or.inl rfl) (aY jB (aM cH hr rfl cI cJ cL .nil bf (aj (pV 0) (aj aD ak))) aD)) (au (aV (i:=8) bQ.nd rfl (Or.inl rfl) (fQ ak)) (au (aV (i:=9) bQ.nd rfl (Or.inl rfl) nU) (au (aV (i:=10) bQ.nd rfl (Or.inl rfl) aD) (au (cY PassesOwn.never rfl (fP rfl T.range (aj (aM cH hr rfl cI cJ cL .nil bf (aj (pV 0) (aj aD ak))) ak)) (aB (i:=11) bQ.nd rfl (Or.inl rfl)) (au (aV (i:=12) bQ.nd rfl (Or.inl rfl) (aY gF (pV 4) (aM cH hr rfl cI cJ cL .nil bf (aj (pV 0) (aj (aY gF (pV 5) aD) ak))))) (au (aV (i:=13) bQ.nd rfl (Or.inl rfl) (fQ ak)) (au (cY PassesOwn.never rfl (fP rfl T.range (aj (aY gF aD (aM cH hr rfl cI cJ cL .nil bf (aj (pV 0) (aj aD ak)))) ak)) (aB (i:=14) bQ.nd rfl (Or.inl rfl)) (aH (eV (tu (sZ oLt (pV 10) (pV 3) (bJ _)) (pw_and1 (sZ oLt (pV 10) (aU bT rfl T.len PySem.boot_len (aj (pV 2) ak)) (bJ _)))) (au (aV (i:=7) bQ.nd rfl (Or.inl rfl) (aY gF (aY gF (pV 7) aD) (aM cH hr rfl cI cJ cL .nil bf (aj (pV 0) (aj aD ak))))) (au (aV (i:=15) bQ.nd rfl (Or.inl rfl) (aY gF (pV 7) (pV 12))) (au (eV (tu (sZ (FJ hr.units) (pV 13) (fQ ak) (bJ _)) (pw_and (sZ oLe (aY gF (pV 12) aD) (aY gF (pV 4) (pV 5)) (bJ _)) (pw_and (sZ oEq (aM cH hr rfl cI cJ cL .nil bf (aj (pV 0) (aj aD ak))) aD (bJ _)) (pw_and1 (sZ Sv (pV 6) aD (bJ _)))))) (aH (aV (i:=15) bQ.nd rfl (Or.inl rfl) (aY gF (pV 15) aD))) bO) (au (eV (tu (sZ (FJ hr.units) (pV 13) (fQ ak) (bJ _)) (pw_and1 (sZ oLe (pV 15) (cP jC (cP Eo (pV 13) (wR J5 aD) (fun _ _=>rfl)) aD (fun _ _=>rfl)) (bJ _)))) (aH (aV (i:=15) bQ.nd rfl (Or.inl rfl) (aY gF (cP jC (cP Eo (pV 13) (wR J5 aD) (fun _ _=>rfl)) aD (fun _ _=>rfl)) aD))) bO) (au (pA (cV hr) (pV 9) (cP Eo (pV 2) (pV 10) (fun _ _=>rfl)) (pV 7) rfl) (au (gB (j9 PySem.F.plainAttrs_list PySem.F.slot_list_append PySem.F.type_list_append dD (pV 13) (aj (bI (aj (cP Eo (pV 2) (pV 10) (fun _ _=>rfl)) (aj (pV 15) ak))) ak))) (aH (aV (i:=10) bQ.nd rfl (Or.inl rfl) (aY gF (pV 10) aD))))))))) bO))) (au (eV (sZ (FJ hr.units) (pV 13) (fQ ak) (bJ _)) (aH (gB (j9 PySem.F.plainAttrs_list PySem.F.slot_list_append PySem.F.type_list_append dD (pV 8) (aj (dB bY rfl T.tuple PyProof.Rows.boot_tuple (aj (pV 13) ak)) ak)))) bO) (aH (aV (i:=7) bQ.nd rfl (Or.inl rfl) (aY gF (pV 7) (aM cH hr rfl cI cJ cL .nil bf (aj (pV 0) (aj aD ak))))))))))) (aH (aZ (bI (aj (bI (aj (pV 1) (aj (pV 4) (aj (aY gF (pV 4) (pV 5)) (aj (pV 6) (aj (dB bY rfl T.tuple PyProof.Rows.boot_tuple (aj (pV 8) ak)) ak)))))) (aj (pV 9) ak))))))))))))),?_⟩
   refine jf fun U1 hU1=>?_
   refine ⟨p,41,rfl,hp,by decide,by decide,fun d1 H1 d10 d11 hp1 s1=>?_⟩
   show U1 _ _
   subst hU1
   refine jf fun U2 hU2=>?_
   refine ⟨by show 4<=sizeLine; omega,fun l1 hl1=>?_⟩
   refine ⟨p,4,rfl,hp1.new hl1,by decide,by decide,fun d2 H2 d2a d2b hp2 s2=>?_⟩
   have nl1:l1≠p:=fun z=>by obtain ⟨n,e,_⟩:=hp1; rw [<- z,hl1] at e; cases e
   obtain ⟨wide,ew,w0,w1⟩:=V8 (a:=0) (b:=3) (c:=40) (e:=300) d2a d2b (by decide) (by decide) (by decide) (by decide)
   refine qM (s2 l1 _ nl1 aq) ew ?_
   show U2 _ _
   subst hU2
   have S2:aP p H H2:=((aP.of (Same.refl H)).trans s1 |>.new hl1).trans s2
   refine jf fun U3 hU3=>?_
   refine ⟨by show 4<=sizeLine; omega,fun l2 hl2=>?_⟩
   refine ⟨p,4,rfl,hp2.new hl2,by decide,by decide,fun d3 H3 d3a d3b hp3 s3=>?_⟩
   have nl2:l2≠p:=fun z=>by obtain ⟨n,e,_⟩:=hp2; rw [<- z,hl2] at e; cases e
   obtain ⟨aK,ed,dr0,dr1⟩:=V8 (a:=0) (b:=1) (c:=2) (e:=9) d3a d3b (by decide) (by decide) (by decide) (by decide)
   refine qM (s3 l2 _ nl2 aq) ed ?_
   show U3 _ _
   subst hU3
   have S3:aP p H H3:=(S2.new hl2).trans s3
   refine jf fun U4 hU4=>?_
   refine ⟨p,60,rfl,hp3,by decide,by decide,fun d4 H4 d40 d41 Ge s4=>?_⟩
   show U4 _ _
   subst hU4
   have S4:aP p H H4:=S3.trans s4
   refine jf fun U5 hU5=>?_
   refine ⟨Nat.zero_le _,fun R hR=>?_⟩
   show U5 _ _
   subst hU5
   have nR:R≠p:=fun z=>by obtain ⟨n,e,_⟩:=Ge; rw [<- z,hR] at e; cases e
   have fR:H R=none:=by
     cases e:H R with
     | none=>rfl
     | some o=>have:=S4 R o nR e; rw [hR] at this; cases this
   refine jf fun U6 hU6=>?_
   refine fun D hD=>?_
   show U6 _ _
   subst hU6
   have YH:=Ge.new (o:=.lst []) hR
   have S5:aP p H (upd H4 R (.lst [])):=S4.new hR
   have nD:D≠p:=fun z=>by obtain ⟨n,e,_⟩:=YH; rw [<- z,hD] at e; cases e
   have nRD:R≠D:=aN aq hD
   have fD:H D=none:=by
     cases e:H D with
     | none=>rfl
     | some o=>have:=S5 D o nD e; rw [hD] at this; cases this
   have nlD:ln≠D:=aN YG fD
   refine ⟨p,4,rfl,YH.new hD,by decide,by decide,fun n1 H6 n1a n1b hp6 s6=>?_⟩
   have S6:aP p H H6:=(S5.new hD).trans s6
   obtain ⟨low,hlow⟩:∃ low,low=d1-20:=⟨_,rfl⟩
   refine ⟨n1,rfl,by omega,by omega,iz (lo:=0) (n:=n1.toNat) (PwA p ln R D nm room low wide aK H ss) ?_ (fun i σ H' hi afe=>?_) (fun σ H' afg=>?_)⟩
   . exact ⟨_,0,[],[],[],none,none,none,none,none,by subst hlow; rfl,⟨hp6,S6,s6 R _ nR (by rw [aL nRD]; exact aq),.nil,s6 D _ nD aq,rfl,fun n hn=>by simp at hn,Nat.zero_le _,.inr rfl,fun r hr=>by simp at hr⟩,rfl,Nat.zero_le _,Qg,by unfold zK; omega⟩
   . refine cC fun mz bK=>?_
     obtain ⟨mo,m,vr,kvs,runs,jc,iC,iU,iG,iZ,eσ,S,fl,rl,fe,mb⟩:=afe
     subst bK
     subst eσ
     refine ⟨p,wide+1,rfl,S.pack,by omega,by omega,fun FN Ha amM amN hpa sa=>?_⟩
     have Sa:=S.step nR nD hpa sa
     refine ⟨Nat.zero_le _,fun L hL=>?_⟩
     have Sb:=Sa.new (o:=.lst []) nR nD hL
     have nLp:L≠p:=fun z=>by obtain ⟨n,e,_⟩:=Sa.pack; rw [<- z,hL] at e; cases e
     have nLR:L≠R:=fun z=>by rw [z,Sa.hR] at hL; cases hL
     have nLD:L≠D:=fun z=>by rw [z,Sa.hD] at hL; cases hL
     have fL:H L=none:=by
       cases e:H L with
       | none=>rfl
       | some o=>have:=Sa.same L o nLp e; rw [hL] at this; cases this
     refine ⟨p,3,rfl,Sb.pack,by decide,by decide,fun n2 Hc n2a n2b hpc sc=>?_⟩
     have Sc:=Sb.step nR nD hpc sc
     have hLc:Hc L=some (.lst []):=sc L _ nLp aq
     refine ⟨1+n2,rfl,by omega,by omega,iz (lo:=0) (n:=(1+n2).toNat) (PwB p ln R D L nm room low wide aK FN H ss i vr runs) ?_ (fun j σ jT hj afh=>?_) (fun σ jT afi=>?_)⟩
     . exact ⟨mo,m,kvs,[],[],_,_,rfl,Sc,hLc,.nil,by rw [List.append_nil]; exact fl,Nat.zero_le _,List.Pairwise.nil,Jb fe,mb⟩
     . refine cC fun mz bK=>?_
       obtain ⟨mo,m,kvs,vl,rs,iG,iZ,eσ,S,hL',pl,Wf,rl',YJ,fe,mb⟩:=afh
       subst bK
       subst eσ
       have gr:∀ r∈rs,Good r.1:=fun r hr=>gs r.1 (by
         have z:r.1∈ss.take m:=by rw [<- Wf,List.map_append]; exact List.mem_append_right _ (List.mem_map_of_mem hr)
         exact List.mem_of_mem_take z)
       have skip:∃ (CV:Int) (m':Nat) (kvs':List (Key × V)) (vl':List V) (rs':List Row) (afj afk:Option V),([some (.ref p),some (.str nm),some (.ref ln),some (.int room),some (.int low),some (.int wide),some (.int aK),some (.int mo),some (.ref R),some (.ref D),some (.int (m:Int)),some (.int (0+(i:Int))),some (.int (low+FN)),some (.ref L),some (.int (0+(j:Int))),iZ]:St)=[some (.ref p),some (.str nm),some (.ref ln),some (.int room),some (.int low),some (.int wide),some (.int aK),some (.int CV),some (.ref R),some (.ref D),some (.int (m':Int)),some (.int (0+(i:Int))),some (.int (low+FN)),some (.ref L),afj,afk] /\
         HS H p R D ss room jT vr kvs' runs m'/\jT L=some (.lst vl')/\Paired (dZ jT) vl' rs'/\(runs.flatten++rs').map Prod.fst=ss.take m'/\rs'.length<=j+1/\(rs'.map Prod.snd).Pairwise (·<·)/\DY low wide aK (low+FN) (gW kvs') CV runs rs'/\zK CV m' i:=⟨mo,m,kvs,vl,rs,_,_,rfl,S,hL',pl,Wf,Nat.le_succ_of_le rl',YJ,fe,mb⟩
       refine j7 (fun c1=>?_) (fun c1=>skip)
       refine ⟨ln,_,rfl,.inl (dg.of (S.same ln _ nln YG)),?_⟩
       refine j7 (fun c2=>?_) (fun c2=>skip)
       clear skip
       have hroom:(m:Int)<room:=of_decide_eq_true c1
       have hlen:m<ss.length:=by
         have z:(m:Int)<((ss.map V.str).length:Int):=of_decide_eq_true c2
         rw [List.length_map] at z; omega
       refine cC fun Rz1 Qj=>?_
       obtain ⟨n,hn⟩:∃ n,ss[m]?=some n:=⟨ss[m],List.getElem?_eq_getElem hlen⟩
       subst Qj
       refine jf fun V1 hV1=>?_
       refine ⟨p,30,rfl,S.pack,by decide,by decide,fun d5 Hd d50 d51 hpd sd=>?_⟩
       show V1 _ _
       subst hV1
       refine jf fun V2 hV2=>?_
       show V2 _ _
       subst hV2
       have Sd:=S.step nR nD hpd sd
       have hLd:Hd L=some (.lst vl):=sd L _ nLp hL'
       have pld:Paired (dZ Hd) vl rs:=aO (fun _ _ z=>z.ts (aP.tups S.pack sd)) pl
       refine mQ (NvR p ln R D L nm room low wide aK FN (mo+1+d5) m (.int (0+(i:Int))) (.int (0+(j:Int))) H ss vr vl kvs runs rs (zJ low wide aK (low+FN) (mo+1+d5))) (fun U hU=>?_) (fun σ2 H2 hN2=>?_)
       . have Qk:∀ (rd:Int) (H9:Hp),zJ low wide aK (low+FN) (mo+1+d5) rd->HS H p R D ss room H9 vr kvs runs m->H9 L=some (.lst vl)->Paired (dZ H9) vl rs->U [some (.ref p),some (.str nm),some (.ref ln),some (.int room),some (.int low),some (.int wide),some (.int aK),some (.int (mo+1+d5)),some (.ref R),some (.ref D),some (.int (m:Int)),some (.int (0+(i:Int))),some (.int (low+FN)),some (.ref L),some (.int (0+(j:Int))),some (.int rd)] H9:=fun rd H9 x0 x1 x2 x3=>hU _ _ ⟨rd,rfl,x1,x2,x3,x0⟩
         refine ⟨Nat.zero_le _,fun e1 YK=>?_⟩
         have Se:=Sd.new (o:=.lst []) nR nD YK
         have hLe:upd Hd e1 (.lst []) L=some (.lst vl):=(aL (aN hLd YK)).trans hLd
         have Wg:Paired (dZ (upd Hd e1 (.lst []))) vl rs:=aO (fun _ _ z=>z.ts ((dX.refl Hd).new YK)) pld
         refine O5 hLe Wg gr aq ?_
         generalize (!rs.isEmpty)=bb
         cases bb with
         | false=>exact Qk _ _ (.inl rfl) Se hLe Wg
         | true =>
           refine j7 (fun k1=>?_) (fun k1=>Qk _ _ (.inl rfl) Se hLe Wg)
           refine ⟨p,3,rfl,Se.pack,by decide,by decide,fun d6 Hh _ _ hph sh=>?_⟩
           have Sh:=Se.step nR nD hph sh
           have hLh:Hh L=some (.lst vl):=sh L _ nLp hLe
           have plh:Paired (dZ Hh) vl rs:=aO (fun _ _ z=>z.ts (aP.tups Se.pack sh)) Wg
           exact j7 (fun k2=>j7 (fun k3=>Qk _ _ (.inr ⟨rfl,of_decide_eq_true k3,of_decide_eq_true k1⟩) Sh hLh plh) (fun k3=>Qk _ _ (.inl rfl) Sh hLh plh)) (fun k2=>Qk _ _ (.inl rfl) Sh hLh plh)
       refine cC fun Rz1 Qj=>?_
       obtain ⟨rd,amU,Sx,hLx,plx,rok⟩:=hN2
       subst Qj
       subst amU
       refine mQ (NvR p ln R D L nm room low wide aK FN (mo+1+d5) m (.int (0+(i:Int))) (.int (0+(j:Int))) H ss vr vl kvs runs rs (fun rd=>(∀ r∈rs,r.2<rd)/\zJ low wide aK (low+FN) (mo+1+d5) rd)) (fun U hU=>?_) (fun σ3 H3 hN3=>?_)
       . refine ⟨Nat.zero_le _,fun fa hfa=>?_⟩
         have Sga:=Sx.new (o:=.lst []) nR nD hfa
         have K1:upd H2 fa (.lst []) L=some (.lst vl):=(aL (aN hLx hfa)).trans hLx
         have Ql:Paired (dZ (upd H2 fa (.lst []))) vl rs:=aO (fun _ _ z=>z.ts ((dX.refl _).new hfa)) plx
         refine O5 K1 Ql gr aq ?_
         rcases List.eq_nil_or_concat rs with er | ⟨rs0,YL,er⟩
         . subst er
           exact hU _ _ ⟨_,rfl,Sga,K1,Ql,fun r hr=>by simp at hr,rok⟩
         . rw [List.concat_eq_append] at er
           have ne:(!rs.isEmpty)=true:=by rw [er]; simp
           rw [ne]
           have Jc:∃ YM vL,vl=YM++[vL]/\∀ Hx,Paired (dZ Hx) vl rs->dZ Hx vL YL:=by
             have hv:vl≠[]:=fun z=>by
               have:=pl.length
               rw [z,er] at this
               simp at this
             obtain ⟨YM,vL,ev⟩:=(List.eq_nil_or_concat vl).resolve_left hv
             rw [List.concat_eq_append] at ev
             refine ⟨YM,vL,ev,fun Hx px=>?_⟩
             have l1:=px.length
             rw [ev,er,List.length_append,List.length_append] at l1
             have e1:vl[YM.length]?=some vL:=by rw [ev]; simp
             obtain ⟨r,hr,ra⟩:=aQ px e1
             have e2:rs[YM.length]?=some YL:=by
               have:YM.length=rs0.length:=by simpa using l1
               rw [er,this]; simp
             rw [e2] at hr
             cases hr
             exact ra
           refine cC fun mz bK=>?_
           obtain ⟨YM,vL,evl,abC⟩:=Jc
           obtain ⟨gaa,rfl,gba⟩:=abC _ Ql
           subst bK
           have Qm:∀ rd:Int,YL.2<rd->∀ r∈rs,r.2<rd:=fun rd h r hr=>by
             rw [er] at hr YJ
             rcases List.mem_append.mp hr with z | z
             . rw [List.map_append] at YJ
               have:=(List.pairwise_append.mp YJ).2.2 r.2 (List.mem_map_of_mem z) YL.2 (by simp)
               omega
             . rw [List.mem_singleton.mp z]; exact h
           refine qM K1 (i:=-1) (v:=.ref gaa) (by rw [evl]; exact Ci) ?_
           refine gj (bM.of gba) (i:=1) (v:=.int YL.2) (by rfl) ?_
           refine j7 (fun cc=>?_) (fun cc=>?_)
           . refine qM K1 (i:=-1) (v:=.ref gaa) (by rw [evl]; exact Ci) ?_
             refine gj (bM.of gba) (i:=1) (v:=.int YL.2) (by rfl) ?_
             exact hU _ _ ⟨_,rfl,Sga,K1,Ql,Qm _ (by omega),T4 fe (by rw [er]; simp) d50 rok (of_decide_eq_true cc)⟩
           . have cc2:¬ rd<=YL.2:=fun z=>cc (decide_eq_true z)
             exact hU _ _ ⟨_,rfl,Sga,K1,Ql,Qm _ (by omega),rok⟩
       refine cC fun Rz1 Qj=>?_
       obtain ⟨rd,amY,Sy,hLy,ply,lt,rok⟩:=hN3
       subst Qj
       subst amY
       refine qM (Sy.same ln _ nln YG) (i:=(m:Int)) (v:=.str n) (gQ (by rw [List.getElem?_map,hn]; rfl)) ?_
       refine ⟨D,_,rfl,uf.k (k:=Sum.inr n) Sy.hD (by have z:=congrArg List.length Sy.keys; rw [List.length_map,List.length_map,List.length_take] at z; omega),?_⟩
       have hLq:upd H3 D (.dK (putK kvs (.inr n) (.int (mo+1+d5)))) L=some (.lst vl):=(aL nLD).trans hLy
       refine ⟨.inl ⟨rfl,_,dg.of hLq⟩,?_⟩
       refine qM ((aL nlD).trans (Sy.same ln _ nln YG)) (i:=(m:Int)) (v:=.str n) (gQ (by rw [List.getElem?_map,hn]; rfl)) ?_
       refine ⟨by show 2<=sizeLine; omega,fun tp htp=>?_⟩
       obtain ⟨Sq,pq⟩:=HS.put (rd:=rd) Sy nR nD nRD nLp nLR nLD fD fL nd hn hroom hLy ply htp
       refine ⟨L,vl,_,rfl,rfl,(aL (aN hLq htp)).trans hLq,by have z:=ply.length; omega,?_⟩
       exact ⟨_,m+1,_,_,rs++[(n,rd)],_,_,rfl,Sq,aq,pq,by rw [<- List.append_assoc,List.map_append,Wf,vA hn]; rfl,by rw [List.length_append]; exact Nat.add_le_add_right rl' 1,KD YJ lt,YD fe (by omega) (by unfold zK at mb; omega) (fun z=>pG nd hn (Wf ▸ z)) rok (by omega) (by omega),by unfold zK at mb ⊢; omega⟩
     . refine cC fun mz bK=>?_
       obtain ⟨mo,m,kvs,vl,rs,iG,iZ,eσ,S,hL',pl,Wf,rl',YJ,fe,mb⟩:=afi
       subst bK
       subst eσ
       have gr:∀ r∈rs,Good r.1:=fun r hr=>gs r.1 (by
         have z:r.1∈ss.take m:=by rw [<- Wf,List.map_append]; exact List.mem_append_right _ (List.mem_map_of_mem hr)
         exact List.mem_of_mem_take z)
       refine ⟨Nat.zero_le _,fun e1 YK=>?_⟩
       have Se:=S.new (o:=.lst []) nR nD YK
       have hLe:upd jT e1 (.lst []) L=some (.lst vl):=(aL (aN hL' YK)).trans hL'
       have Wg:Paired (dZ (upd jT e1 (.lst []))) vl rs:=aO (fun _ _ z=>z.ts ((dX.refl _).new YK)) pl
       have lr:=Wg.length
       have lrr:=Se.pR.length
       refine O5 hLe Wg gr aq ?_
       refine j7 (fun c1=>?_) (fun c1=>?_)
       . have rne:rs≠[]:=fun z=>by rw [z] at c1; cases c1
         refine ⟨.inl ⟨rfl,_,dg.of Se.hR⟩,?_⟩
         refine ⟨L,vl,rfl,.inl ⟨dg.of hLe,fun t9 ht9=>?_⟩⟩
         have St:=Se.new (o:=.tup vl) nR nD ht9
         refine ⟨R,vr,_,rfl,rfl,St.hR,by omega,?_⟩
         have tt:dX (upd (upd jT e1 (.lst [])) t9 (.tup vl)) (upd (upd (upd jT e1 (.lst [])) t9 (.tup vl)) R (.lst (vr++[.ref t9]))):=(dX.refl _).put St.hR (fun _ z=>nomatch z)
         have Su:HS H p R D ss room (upd (upd (upd jT e1 (.lst [])) t9 (.tup vl)) R (.lst (vr++[.ref t9]))) (vr++[.ref t9]) kvs (runs++[rs]) m:=by
           refine ⟨St.pack.put nR,fun b o hb e=>?_,aq,?_,(aL (Ne.symm nRD)).trans St.hD,St.keys,St.vals,St.le,St.rm,fun r hr=>?_⟩
           . rw [aL (aN e fR)]; exact St.same b o hb e
           . refine fJ (aO (fun _ _ z=>z.ts tt) St.pR) (.cons ⟨t9,vl,rfl,tt _ _ aq,aO (fun _ _ z=>z.ts (((dX.refl _).new ht9).trans tt)) Wg⟩ .nil)
           . rcases List.mem_append.mp hr with z | z
             . exact St.good r z
             . rw [List.mem_singleton.mp z]
               exact ⟨rne,by omega,gr,YJ⟩
         refine ⟨p,5,rfl,Su.pack,by decide,by decide,fun d9 Hz d90 d91 hpz sz=>?_⟩
         exact ⟨_,m,_,kvs,runs++[rs],_,_,_,_,_,rfl,Su.step nR nD hpz sz,by rw [List.flatten_append]; simpa using Wf,by rw [List.length_append]; exact Nat.add_le_add_right rl 1,CQ (Qi fe dr0) (by omega),by unfold zK at mb ⊢; omega⟩
       . have rne:rs=[]:=by
           cases rs with
           | nil=>rfl
           | cons r rs=>exact absurd rfl c1
         subst rne
         refine ⟨p,5,rfl,Se.pack,by decide,by decide,fun d9 Hz d90 d91 hpz sz=>?_⟩
         exact ⟨_,m,_,kvs,runs,_,_,_,_,_,rfl,Se.step nR nD hpz sz,by simpa using Wf,Nat.le_succ_of_le rl,CQ (Jb fe) (by omega),by unfold zK at mb ⊢; omega⟩
   . refine cC fun mz bK=>?_
     obtain ⟨mo,m,vr,kvs,runs,jc,iC,iU,iG,iZ,eσ,S,fl,rl,fe,mb⟩:=afg
     subst bK
     subst eσ
     have lr:=S.pR.length
     refine ⟨R,vr,rfl,.inl ⟨dg.of S.hR,fun t1 h1=>?_⟩⟩
     have Sa:=S.new (o:=.tup vr) nR nD h1
     refine ⟨by show 5<=sizeLine; omega,fun t2 h2=>?_⟩
     have Sb:=Sa.new (o:=.tup [.str nm,.int low,.int (low+wide),.int aK,.ref t1]) nR nD h2
     refine ⟨by show 2<=sizeLine; omega,fun t3 h3=>?_⟩
     have Sc:=Sb.new (o:=.tup [.ref t2,.ref D]) nR nD h3
     have nt3:t3≠p:=fun z=>by obtain ⟨n,e,_⟩:=Sb.pack; rw [<- z,h3] at e; cases e
     have ft3:H t3=none:=by
       cases e:H t3 with
       | none=>rfl
       | some o=>have:=Sb.same t3 o nt3 e; rw [h3] at this; cases this
     refine q t3 D (.ref t2) ⟨nm,low,low+wide,aK,runs⟩ kvs m _ ft3 fD aq ⟨t2,.ref t1,rfl,(aL (aN aq h3)).trans aq,t1,vr,rfl,?_,Sc.pR⟩ ⟨⟨gn,by show low<=low+wide; omega,dr0,by show runs.length<=25; omega,Sc.good⟩,by show low+wide-low<=300; omega,by show -1000<=low; omega,by show low+wide<=1000; omega,T5 fe (by omega) (by omega) (by omega) (by omega) (by unfold zK at mb; have:=Sc.le; omega)⟩ rfl fl Sc.le Sc.rm Sc.hD Sc.keys Sc.vals Sc.pack Sc.same (YF fe)
     have e1:upd (upd H' t1 (.tup vr)) t2 (.tup [.str nm,.int low,.int (low+wide),.int aK,.ref t1]) t1=some (.tup vr):=(aL (aN aq h2)).trans aq
     exact (aL (aN e1 h3)).trans e1
end
end mW
namespace mW
open PySem L2 gY
def Qn (hs:List aJ) (M:Str->Int) (l:Letter):Prop:=ql hs l/\gk l M=true
def vN (hs:List aJ) (M:Str->Int) (H:Hp) (kf:List (List Key × V)):Prop:=∀ kv∈kf,∃ l:Letter,kv.1=kP l.1/\fu H kv.2 l/\Qn hs M l
theorem vN.keys {hs:List aJ} {M:Str->Int} {H:Hp} {kf:List (List Key × V)} (h:vN hs M H kf):∃ ks:List (Str × Str),kf.map (·.1)=ks.map kP/\ks.length=kf.length :=
 uF.keys (hs:=hs) (H:=H) fun kv hkv=>let ⟨l,a,b,c⟩:=h kv hkv; ⟨l,a,b,c.1⟩
def m5:Sp:=fun vs H Q _=>∃ (p lh dh:Addr) (vh:List V) (hs:List aJ) (kvs:List (Key × V)),vs=[.ref p,.ref lh,.ref dh]/\bD H p/\H lh=some (.lst vh)/\Paired (fj H) vh hs/\hs.length<=6/\(∀ h∈hs,cD h)/\(namesOf hs).Nodup/\(namesOf hs).length<=24 /\
 H dh=some (.dK kvs)/\kvs.map (·.1)=(namesOf hs).map Sum.inr/\(∀ n∈namesOf hs,∃ i:Int,dW kvs (.inr n)=some (.int i)) /\
 ∀ (x:V) (ls:List Letter) (H':Hp),fW H' x ls->bx hs ls->(∀ l∈ls,gk l (gW kvs)=true)->bD H' p->aP p H H'->Q x H'
def PwF (p lh dh O l8 F:Addr) (hs:List aJ) (M:Str->Int) (H2:Hp):Nat->St->Hp->Prop:=fun i σ H'=>∃ (kf:List (List Key × V)) (o4 o5 o6 o7 gM jc iC iU iG iZ:Option V),σ=[some (.ref p),some (.ref lh),some (.ref dh),some (.ref O),o4,o5,o6,o7,some (.ref l8),some (.ref F),gM,jc,iC,iU,iG,iZ]/\bD H' p/\aP p H2 H'/\H' F=some (.dT kf)/\kf.length<=i/\vN hs M H' kf
section
variable {P:Program} {w:World} {K:PySem.W.Frag} {mg:Str->Option Value} {base:Heap} {t8:Tok}
theorem bV:bG ["_law_pack_here","_law_houses","_law_hidden","_law_home","_law_house_here","_law_run","_law_name","_law_reading","_law_rows_here","_law_found","_law_turn","_law_one","_law_other","_law_gap","_law_slack","_law_most"] ["_law_pack_here","_law_houses","_law_hidden"] (aA iy):=⟨rfl,rfl,rfl,by decide +kernel,rfl,by decide +kernel,by decide +kernel⟩
theorem zL {f dG:Addr} {fd dU:FuncData} (F:nG K "_law_letters" "_law_letters" iy f fd) (T:Txt mg t8)
   (cH:aX P w K mg base dM 1 dG dU ["_law_pack_here","_law_size"] mR) (cI:mg "_law_take" = some (.ref dG)) (cJ:PySem.W.keepIn K (.ref dG)=true) (cL:Binds K dU ["_law_pack_here","_law_size"] []):aX P w K mg base dM 2 f fd ["_law_pack_here","_law_houses","_law_hidden"] m5:=by
 refine F.ok bV (fun vs H Q E h=>?_) (fun cdv A outer s H vs Q E hr h=>?_)
 . obtain ⟨p,lh,dh,vh,hs,kvs,rfl,_⟩:=h
   rfl
 . obtain ⟨p,lh,dh,vh,hs,kvs,rfl,hp,hlh,ph,h6,gh,nd,few,hdh,keys,vals,q⟩:=h
   have mJ:sizeLine=16777216:=sizeLine_eq
   have nlh:lh≠p:=fun z=>by
     obtain ⟨n,e,_⟩:=hp
     rw [z,e] at hlh
     cases ph with
     | nil=>cases hlh
     | cons h _=>obtain ⟨a,b,rfl,_⟩:=h; cases hlh
   have ndh:dh≠p:=fun z=>by obtain ⟨n,e,_⟩:=hp; rw [z,e] at hdh; cases hdh
   refine ⟨_,(au (aV (i:=3) bV.nd rfl (Or.inl rfl) nU) (au (cY PassesOwn.never rfl (fO (pV 1)) (aB (i:=4) bV.nd rfl (Or.inl rfl)) (aH (cY PassesOwn.never rfl (cX (cP jC (pV 4) aD (fun _ _=>rfl))) (aB (i:=5) bV.nd rfl (Or.inl rfl)) (aH (cY PassesOwn.never rfl (cX (pV 5)) (cT rfl (aG (aB (i:=6) bV.nd rfl (Or.inl rfl)) (aG (aB (i:=7) bV.nd rfl (Or.inl rfl)) bR))) (aH (pA (cV hr) (pV 3) (pV 6) (cP jC (pV 4) aD (fun _ _=>rfl)) rfl))))))) (au (aV (i:=8) bV.nd rfl (Or.inl rfl) (aU (yU rfl) rfl T.sorted PyProof.Rows.boot_sorted (aj (pV 2) ak))) (au (aV (i:=9) bV.nd rfl (Or.inr rfl) Bh) (au (cY PassesOwn.never rfl (fP rfl T.range (aj (aM cH hr rfl cI cJ cL .nil bf (aj (pV 0) (aj aD ak))) ak)) (aB (i:=10) bV.nd rfl (Or.inl rfl)) (aH (eV (sZ Sv (aU bT rfl T.len PySem.boot_len (aj (pV 8) ak)) aD (bJ _)) (au (aV (i:=11) bV.nd rfl (Or.inl rfl) (cP Eo (pV 8) (aM cH hr rfl cI cJ cL .nil bf (aj (pV 0) (aj (aU bT rfl T.len PySem.boot_len (aj (pV 8) ak)) ak))) (fun _ _=>rfl))) (au (aV (i:=12) bV.nd rfl (Or.inl rfl) (cP Eo (pV 8) (aM cH hr rfl cI cJ cL .nil bf (aj (pV 0) (aj (aU bT rfl T.len PySem.boot_len (aj (pV 8) ak)) ak))) (fun _ _=>rfl))) (au (aV (i:=13) bV.nd rfl (Or.inl rfl) (aY jB (bZ (cV hr) (pV 2) (pV 12) (fun _ _=>rfl)) (bZ (cV hr) (pV 2) (pV 11) (fun _ _=>rfl)))) (au (aV (i:=14) bV.nd rfl (Or.inl rfl) (aM cH hr rfl cI cJ cL .nil bf (aj (pV 0) (aj aD ak)))) (aH (eV (tu (sZ ae0 (bZ (cV hr) (pV 3) (pV 11) (fun _ _=>rfl)) (bZ (cV hr) (pV 3) (pV 12) (fun _ _=>rfl)) (bJ _)) (pw_and1 (sZ Sv (pV 13) aD (bJ _)))) (au (aV (i:=15) bV.nd rfl (Or.inl rfl) (cP Eo (fQ (aj kO (aj (pV 13) (aj (aY gF (pV 13) (pV 14)) ak)))) (aM cH hr rfl cI cJ cL .nil bf (aj (pV 0) (aj aD ak))) (fun _ _=>rfl))) (aH (pA (cV hr) (pV 9) (bI (aj (pV 11) (aj (pV 12) ak))) (bI (aj (pV 11) (aj (pV 12) (aj (aU (oY rfl) rfl T.max PyProof.Rows.boot_max (aj aD (aj (aY jB (pV 13) (pV 14)) ak))) (aj (pV 15) ak))))) rfl))) bO)))))) bO))) (aH (aZ (dB bY rfl T.tuple PyProof.Rows.boot_tuple (aj (dJ (g8:=aA iy) (own:=["_law_pair"]) (cap:=["_law_found"]) (ix:=[9]) rfl rfl ⟨rfl,by decide +kernel,by decide +kernel,by decide +kernel,rfl,by decide +kernel⟩ (fO (aU (yV rfl) rfl T.sorted PyProof.Rows.boot_sorted (aj (pV 9) ak))) (fun b=>(aB (i:=0) (show (["_law_pair","_law_found"]:List Str).Nodup by decide +kernel) rfl (Or.inl rfl))) (fun b=>bU) (fun b=>(bZ (cV hr) (pV 1) (pV 0) (fun _ _=>rfl)))) ak))))))))),?_⟩
   refine fun O hO=>?_
   have s0:Same H (upd H O (.dK [])):=(Same.refl H).upd hO
   have afq:(pairsOf hs).length<=24:=by
     have z:=few
     rw [<- tK,List.length_map] at z
     exact z
   have ndP:((pairsOf hs).map Prod.fst).Nodup:=by rw [tK]; exact nd
   have abE:∀ (A:List (Str × Str)) (x:Str × Str) (B:List (Str × Str)) (kv:List (Key × V)),pairsOf hs=A++x :: B->pX kv A->kv.length<=A.length->pX (putK kv (.inr x.1) (.str x.2)) (A++[x])/\(putK kv (.inr x.1) (.str x.2)).length<=(A++[x]).length/\kv.length<sizeLine:=fun A x B kv e ow kl=>by
     have l1:=afq
     rw [e,List.length_append,List.length_cons] at l1
     refine ⟨pX.put ow fun y hy z=>?_,?_,by omega⟩
     . rw [e,List.map_append,List.map_cons] at ndP
       exact (List.nodup_append.mp ndP).2.2 y.1 (List.mem_map_of_mem hy) x.1 List.mem_cons_self z
     . have z:=fY kv (.inr x.1) (V.str x.2)
       rw [List.length_append]
       exact Nat.le_trans z (Nat.add_le_add_right kl 1)
   refine ⟨lh,rfl,⟨_,dg.of (s0 _ _ hlh)⟩,jQ (xs:=vh) (PvC p lh dh O hs H) ⟨[],none,none,none,none,rfl,aq,fun x hx=>by simp [pairsOf] at hx,Nat.zero_le _,s0⟩ (fun i σ H' _ afr=>by obtain ⟨_,_,_,_,_,_,_,_,_,s⟩:=afr; exact dg.of (s _ _ hlh)) (fun i x σ H' hx afs=>?_) (fun σ H1 aft=>?_)⟩
   . refine cC fun mz bK=>?_
     obtain ⟨kv,o4,o5,o6,o7,eσ,eO,ow,kl,s⟩:=afs
     subst bK
     subst eσ
     obtain ⟨hh,hhi,ha⟩:=aQ ph hx
     have gd:=gh hh (List.mem_of_getElem? hhi)
     refine cC fun mz bK=>?_
     obtain ⟨a,b,afu,ga,c,vr,afv,gc,pr⟩:=ha
     subst bK
     subst afu
     subst afv
     refine gj (bM.of (s _ _ ga)) (i:=4) (v:=.ref c) (by rfl) ?_
     have e0:pairsOf hs=pairsOf (hs.take i)++(oG hh++pairsOf (hs.drop (i+1))):=by
       unfold pairsOf
       have e1:hs=hs.take i++(hh :: hs.drop (i+1)):=by
         obtain ⟨li,fi⟩:=List.getElem?_eq_some_iff.mp hhi
         rw [<- fi,List.getElem_cons_drop,List.take_append_drop]
       conv=>lhs; rw [e1]
       rw [List.flatMap_append,List.flatMap_cons]
     refine ⟨c,rfl,⟨_,bM.of (s _ _ gc)⟩,gP (xs:=vr) (PvD p lh dh O a hs hh i H) ⟨kv,o5,o6,o7,rfl,eO,by simpa using ow,by simpa using kl,s⟩ (fun j σ H' _ afw=>by obtain ⟨_,_,_,_,_,_,_,_,s⟩:=afw; exact bM.of (s _ _ gc)) (fun j y σ H' hy afx=>?_) (fun σ H' afy=>?_)⟩
     . refine cC fun mz bK=>?_
       obtain ⟨kv,o5,o6,o7,eσ,eO,ow,kl,s⟩:=afx
       subst bK
       subst eσ
       refine cC fun mz bK=>?_
       obtain ⟨r,hr',c2,ws,afz,g2,pr2⟩:=aQ pr hy
       subst bK
       subst afz
       have e1:oG hh=(hh.runs.take j).flatMap (eU hh.name)++(eU hh.name r++(hh.runs.drop (j+1)).flatMap (eU hh.name)):=by
         rw [tM]
         have e1:hh.runs=hh.runs.take j++(r :: hh.runs.drop (j+1)):=by
           obtain ⟨li,fi⟩:=List.getElem?_eq_some_iff.mp hr'
           rw [<- fi,List.getElem_cons_drop,List.take_append_drop]
         conv=>lhs; rw [e1]
         rw [List.flatMap_append,List.flatMap_cons]
       refine ⟨c2,rfl,⟨_,bM.of (s _ _ g2)⟩,gP (xs:=ws) (PvE p lh dh O a c2 hs hh i j r H) ⟨kv,o6,o7,rfl,eO,by simpa using ow,by simpa using kl,s⟩ (fun t σ H' _ afA=>by obtain ⟨_,_,_,_,_,_,_,s⟩:=afA; exact bM.of (s _ _ g2)) (fun t z σ H' hz afB=>?_) (fun σ H' afC=>?_)⟩
       . refine cC fun mz bK=>?_
         obtain ⟨kv,o6,o7,eσ,eO,ow,kl,s⟩:=afB
         subst bK
         subst eσ
         refine cC fun mz bK=>?_
         obtain ⟨rr,hrr,ra1,afD,ra2⟩:=aQ pr2 hz
         subst bK
         subst afD
         have hp':(eU hh.name r)[t]?=some (rr.1,hh.name):=by unfold eU; rw [List.getElem?_map,hrr]; rfl
         refine ⟨ra1,_,rfl,bM.of (s _ _ ra2),rfl,_,_,rfl,_,_,rfl,rfl,?_⟩
         refine gj (bM.of (s _ _ ga)) (i:=0) (v:=.str hh.name) (by rfl) ?_
         have e2:eU hh.name r=(eU hh.name r).take t++((rr.1,hh.name) :: (eU hh.name r).drop (t+1)):=by
           obtain ⟨li,fi⟩:=List.getElem?_eq_some_iff.mp hp'
           rw [<- fi,List.getElem_cons_drop,List.take_append_drop]
         obtain ⟨w1,w2,w3⟩:=abE (pairsOf (hs.take i)++(hh.runs.take j).flatMap (eU hh.name)++(eU hh.name r).take t) (rr.1,hh.name) ((eU hh.name r).drop (t+1)++((hh.runs.drop (j+1)).flatMap (eU hh.name)++pairsOf (hs.drop (i+1)))) kv (by
           rw [e0,e1]
           conv=>lhs; rw [e2]
           simp only [List.append_assoc,List.cons_append]) ow kl
         refine ⟨O,_,rfl,uf.k (k:=Sum.inr rr.1) eO w3,?_⟩
         refine ⟨_,_,_,rfl,aq,?_,?_,fun b' o' e'=>by rw [aL (aN e' hO)]; exact s _ _ e'⟩
         . rw [List.take_add_one,hp',<- List.append_assoc]; exact w1
         . rw [List.take_add_one,hp',<- List.append_assoc]; exact w2
       . refine cC fun mz bK=>?_
         obtain ⟨kv,o6,o7,eσ,eO,ow,kl,s⟩:=afC
         subst bK
         subst eσ
         have l2:=pr2.length
         have e2:(eU hh.name r).take ws.length=eU hh.name r:=List.take_of_length_le (by unfold eU; rw [List.length_map]; omega)
         rw [e2] at ow kl
         refine ⟨kv,_,_,_,rfl,eO,?_,?_,s⟩
         . rw [List.take_add_one,hr',List.flatMap_append]; simpa using ow
         . rw [List.take_add_one,hr',List.flatMap_append]; simpa using kl
     . refine cC fun mz bK=>?_
       obtain ⟨kv,o5,o6,o7,eσ,eO,ow,kl,s⟩:=afy
       subst bK
       subst eσ
       rw [pr.length,List.take_length,<- tM] at ow kl
       have e2:pairsOf (hs.take (i+1))=pairsOf (hs.take i)++oG hh:=by
         unfold pairsOf
         rw [List.take_add_one,hhi,List.flatMap_append]
         simp
       exact ⟨kv,_,_,_,_,rfl,eO,by rw [e2]; exact ow,by rw [e2]; exact kl,s⟩
   . refine cC fun mz bK=>?_
     obtain ⟨kvo,o4,o5,o6,o7,eσ,eO,ow,kl,s1⟩:=aft
     subst bK
     subst eσ
     rw [ph.length,List.take_length] at ow kl
     -- aaf=sorted(hidden)
     refine ⟨dh,kvs,namesOf hs,rfl,s1 _ _ hdh,keys,by omega,fun l8 ss hl8 pm so=>?_⟩
     have s2:Same H1 (upd H1 l8 (.lst (ss.map V.str))):=(Same.refl H1).upd hl8
     generalize eH2:upd H1 l8 (.lst (ss.map V.str))=H2 at s2
     have h8:H2 l8=some (.lst (ss.map V.str)):=by rw [<- eH2]; exact aq
     have sH:Same H H2:=s1.trans s2
     have hp2:bD H2 p:=by obtain ⟨n,e,n0⟩:=hp; exact ⟨n,sH _ _ e,n0⟩
     refine fun F hF=>?_
     have nF:F≠p:=fun z=>by obtain ⟨n,e,_⟩:=hp2; rw [<- z,hF] at e; cases e
     have n8:l8≠p:=fun z=>by
       obtain ⟨n,e,_⟩:=hp2
       rw [<- z,h8] at e
       cases ss with
       | nil=>cases e
       | cons s ss=>cases e
     have nO:O≠p:=fun z=>by obtain ⟨n,e,_⟩:=hp2; rw [<- z,s2 _ _ eO] at e; cases e
     have lss:ss.length=(namesOf hs).length:=pm.length_eq
     have K3:∀ x∈ss,x∈namesOf hs:=fun x hx=>pm.mem_iff.mp hx
     refine ⟨p,7,rfl,hp2.new hF,by decide,by decide,fun n7 H3 n7a n7b hp3 s3=>?_⟩
     have YQ:aP p H2 H3:=((aP.of (Same.refl H2)).new hF).trans s3
     refine ⟨n7,rfl,by omega,by omega,iz (lo:=0) (n:=n7.toNat) (PwF p lh dh O l8 F hs (gW kvs) H2) ⟨[],_,_,_,_,_,_,_,_,_,_,rfl,hp3,YQ,s3 F _ nF aq,Nat.zero_le _,fun x hx=>by simp at hx⟩ (fun i σ H' hi afE=>?_) (fun σ H' afF=>?_)⟩
     . refine cC fun mz bK=>?_
       obtain ⟨kf,o4,o5,o6,o7,gM,jc,iC,iU,iG,iZ,eσ,pk,sb,eF,kl,fo⟩:=afE
       subst bK
       subst eσ
       refine ⟨l8,_,rfl,.inl (dg.of (sb l8 _ n8 h8)),?_⟩
       refine j7 (fun c1=>?_) (fun c1=>⟨kf,_,_,_,_,_,_,_,_,_,_,rfl,pk,sb,eF,Nat.le_succ_of_le kl,fo⟩)
       have many:1<ss.length:=by
         have z:(1:Int)<((ss.map V.str).length:Int):=of_decide_eq_true c1
         rw [List.length_map] at z; omega
       have pick:∀ d:Int,0<=d->d<((ss.map V.str).length:Int)->∃ x,x∈ss/\yH (ss.map V.str) d=some (.str x):=fun d d0 d1=>by
         obtain ⟨n,rfl⟩:=Int.eq_ofNat_of_zero_le d0
         rw [List.length_map] at d1
         have hn:n<ss.length:=by omega
         exact ⟨ss[n],List.getElem_mem hn,gQ (by rw [List.getElem?_map,List.getElem?_eq_getElem hn]; rfl)⟩
       have T6:(0:Int)<((ss.map V.str).length:Int)/\((ss.map V.str).length:Int)<1073741824:=by rw [List.length_map]; omega
       refine jf fun W1 hW1=>?_
       refine ⟨l8,_,rfl,.inl (dg.of (sb l8 _ n8 h8)),?_⟩
       refine ⟨p,_,rfl,pk,T6.1,T6.2,fun d1 Ha d1a d1b pka sa=>?_⟩
       have sba:=sb.trans sa
       obtain ⟨one,m1,e1⟩:=pick d1 d1a d1b
       refine qM (sba l8 _ n8 h8) e1 ?_
       show W1 _ _
       subst hW1
       refine jf fun W2 hW2=>?_
       refine ⟨l8,_,rfl,.inl (dg.of (sba l8 _ n8 h8)),?_⟩
       refine ⟨p,_,rfl,pka,T6.1,T6.2,fun d2 Hb d2a d2b pkb Ij=>?_⟩
       have sbb:=sba.trans Ij
       obtain ⟨other,m2,e2⟩:=pick d2 d2a d2b
       refine qM (sbb l8 _ n8 h8) e2 ?_
       show W2 _ _
       subst hW2
       refine jf fun W3 hW3=>?_
       obtain ⟨g2,eg2⟩:=vals other (K3 _ m2)
       obtain ⟨g1,eg1⟩:=vals one (K3 _ m1)
       have hdb:Hb dh=some (.dK kvs):=sbb dh _ ndh (sH _ _ hdh)
       refine ⟨dh,_,rfl,eg2 ▸ mH.k (k:=Sum.inr other) hdb,?_⟩
       refine ⟨dh,_,rfl,eg1 ▸ mH.k (k:=Sum.inr one) hdb,?_⟩
       show W3 _ _
       subst hW3
       refine jf fun W4 hW4=>?_
       refine ⟨p,9,rfl,pkb,by decide,by decide,fun sk Hc sk0 sk1 pkc sc=>?_⟩
       show W4 _ _
       subst hW4
       have sbc:=sbb.trans sc
       have eFc:Hc F=some (.dT kf):=(sa.trans (Ij.trans sc)) F _ nF eF
       have foc:vN hs (gW kvs) Hc kf:=fun kv hkv=>by
         refine cC fun mz bK=>?_
         obtain ⟨l,w1,w2,w3⟩:=fo kv hkv
         subst bK
         exact ⟨l,w1,w2.ts (aP.tups pk (sa.trans (Ij.trans sc))),w3⟩
       refine cC fun mz bK=>?_
       obtain ⟨hh1,q1,q2,q3⟩:=Cj ow (K3 _ m1)
       subst bK
       refine cC fun mz bK=>?_
       obtain ⟨hh2,r1,r2,r3⟩:=Cj ow (K3 _ m2)
       subst bK
       have hOc:Hc O=some (.dK kvo):=sbc O _ nO (s2 _ _ eO)
       refine ⟨O,_,rfl,q3 ▸ mH.k (k:=Sum.inr one) hOc,?_⟩
       refine ⟨O,_,rfl,r3 ▸ mH.k (k:=Sum.inr other) hOc,?_⟩
       have skip:∀ (σ:St),(∃ o4 o5 o6 o7 gM jc iC iU iG iZ:Option V,σ=[some (.ref p),some (.ref lh),some (.ref dh),some (.ref O),o4,o5,o6,o7,some (.ref l8),some (.ref F),gM,jc,iC,iU,iG,iZ])->∃ (kf:List (List Key × V)) (o4 o5 o6 o7 gM jc iC iU iG iZ:Option V),σ=[some (.ref p),some (.ref lh),some (.ref dh),some (.ref O),o4,o5,o6,o7,some (.ref l8),some (.ref F),gM,jc,iC,iU,iG,iZ]/\bD Hc p/\aP p H2 Hc/\Hc F=some (.dT kf)/\kf.length<=i+1/\vN hs (gW kvs) Hc kf:=fun σ ⟨a4,a5,a6,a7,a10,a11,a12,a13,a14,a15,e⟩=>⟨kf,a4,a5,a6,a7,a10,a11,a12,a13,a14,a15,e,pkc,sbc,eFc,Nat.le_succ_of_le kl,foc⟩
       refine j7 (fun c2=>?_) (fun c2=>skip _ ⟨_,_,_,_,_,_,_,_,_,_,rfl⟩)
       have hne:hh1.name≠hh2.name:=fun z=>by
         rw [decide_eq_true z] at c2
         cases c2
       refine j7 (fun c3=>?_) (fun c3=>skip _ ⟨_,_,_,_,_,_,_,_,_,_,rfl⟩)
       have ang:0<g2-g1:=of_decide_eq_true c3
       refine jf fun W5 hW5=>?_
       refine ⟨by show 3<=sizeLine; omega,fun l3 hl3=>?_⟩
       have nl3:l3≠p:=fun z=>by obtain ⟨n,e,_⟩:=pkc; rw [<- z,hl3] at e; cases e
       refine ⟨p,3,rfl,pkc.new hl3,by decide,by decide,fun d3 Hd d3a d3b pkd sd=>?_⟩
       have scd:aP p Hc Hd:=((aP.of (Same.refl Hc)).new hl3).trans sd
       obtain ⟨mo,emo,hmo⟩:∃ mo:Option Int,yH [V.non,.int (g2-g1),.int (g2-g1+sk)] d3=some (oE mo)/\∀ m,mo=some m->g2-g1<=m:=by
         obtain ⟨n,rfl⟩:=Int.eq_ofNat_of_zero_le d3a
         match n,d3b with
         | 0,_=>exact ⟨none,rfl,fun m e=>nomatch e⟩
         | 1,_=>exact ⟨some (g2-g1),rfl,fun m e=>by cases e; exact Int.le_refl _⟩
         | 2,_=>exact ⟨some (g2-g1+sk),rfl,fun m e=>by cases e; omega⟩
         | n+3,h=>exact absurd h (by omega)
       refine qM (sd l3 _ nl3 aq) emo ?_
       show W5 _ _
       subst hW5
       refine ⟨1,g2-g1-sk,rfl,?_⟩
       obtain ⟨lst,afL,hl1,hl2⟩:∃ lst:Int,lst=(if g2-g1-sk > 1 then g2-g1-sk else 1)/\1<=lst/\lst<=g2-g1:=⟨_,rfl,by split <;> omega,by split <;> omega⟩
       rw [<- afL]
       refine ⟨by show 4<=sizeLine; omega,fun t1 ht1=>?_⟩
       refine ⟨by show 2<=sizeLine; omega,fun t2 ht2=>?_⟩
       have eFd:Hd F=some (.dT kf):=scd F _ nF eFc
       have eF1:upd Hd t1 (.tup [.str one,.str other,.int lst,oE mo]) F=some (.dT kf):=(aL (aN eFd ht1)).trans eFd
       have eF2:upd (upd Hd t1 (.tup [.str one,.str other,.int lst,oE mo])) t2 (.tup [.str one,.str other]) F=some (.dT kf):=(aL (aN eF1 ht2)).trans eF1
       refine ⟨F,_,rfl,uf.t (k:=kP (one,other)) eF2 aq (by omega),?_⟩
       have tt:dX Hc (upd (upd (upd Hd t1 (.tup [.str one,.str other,.int lst,oE mo])) t2 (.tup [.str one,.str other])) F (.dT (putK kf (kP (one,other)) (.ref t1)))):=(((aP.tups pkc scd).new ht1).new ht2).put eF2 (fun _ z=>nomatch z)
       have et1:upd (upd (upd Hd t1 (.tup [.str one,.str other,.int lst,oE mo])) t2 (.tup [.str one,.str other])) F (.dT (putK kf (kP (one,other)) (.ref t1))) t1=some (.tup [.str one,.str other,.int lst,oE mo]):=by
         rw [aL (aN eFd ht1).symm,aL (aN aq ht2)]; exact aq
       refine ⟨_,_,_,_,_,_,_,_,_,_,_,rfl,((pkd.new ht1).new ht2).put nF,fun b o hb e=>?_,aq,?_,fun kv hkv=>?_⟩
       . have z1:=(sbc.trans scd) b o hb e
         rw [aL (aN e hF)]
         exact (((aP.of (Same.refl Hd)).new ht1).new ht2) b o hb z1
       . exact Nat.le_trans (fY kf (kP (one,other)) (.ref t1)) (Nat.add_le_add_right kl 1)
       . rcases O6 hkv with z | z
         . subst z
           exact ⟨((one,other),lst,mo),rfl,⟨t1,rfl,et1⟩,⟨vB gh (K3 _ m1),vB gh (K3 _ m2),hl1,fun m e=>by have:=hmo m e; show lst<=m; omega,hh1,q1,hh2,r1,q2,r2,hne⟩,CP (Ja eg1) (Ja eg2) hl2 hmo⟩
         . refine cC fun mz bK=>?_
           obtain ⟨l,w1,w2,w3⟩:=foc kv z
           subst bK
           exact ⟨l,w1,w2.ts tt,w3⟩
     . refine cC fun mz bK=>?_
       obtain ⟨kf,o4,o5,o6,o7,gM,jc,iC,iU,iG,iZ,eσ,pk,sb,eF,kl,fo⟩:=afF
       subst bK
       subst eσ
       obtain ⟨ks,ek,lk⟩:=fo.keys
       refine ⟨F,kf,ks,rfl,eF,ek,by omega,fun l9 as ks' hl9 pm' pw la ha=>?_⟩
       have lks:ks'.length=ks.length:=pm'.length_eq
       have s9:Same H' (upd H' l9 (.lst (as.map V.ref))):=(Same.refl H').upd hl9
       generalize eH9:upd H' l9 (.lst (as.map V.ref))=H9 at s9
       have h9:H9 l9=some (.lst (as.map V.ref)):=by rw [<- eH9]; exact aq
       refine ⟨l9,rfl,⟨_,dg.of h9⟩,fun D hD=>pB (xs:=as.map V.ref) (fun i jT=>∃ (zs:List V) (ls:List Letter),fB H9 jT D zs/\Paired (fu H9) zs ls/\ls.map Prod.fst=ks'.take i/\∀ l∈ls,Qn hs (gW kvs) l) ⟨[],[],fB.start hD,.nil,rfl,fun l hl=>by simp at hl⟩ (fun i jT _ afO=>by obtain ⟨_,_,G,_⟩:=afO; exact dg.of (G.same _ _ h9)) (fun jT afP=>?_) (fun i x jT hx hi afQ b=>?_)⟩
       . refine cC fun mz bK=>?_
         obtain ⟨zs,ls,G,pz,el,gl⟩:=afP
         subst bK
         have lx:ks'.take (as.map V.ref).length=ks':=List.take_of_length_le (by rw [List.length_map]; omega)
         rw [lx] at el
         have l1:=congrArg List.length el
         rw [List.length_map] at l1
         have l2:=pz.length
         refine ⟨D,zs,rfl,.inl ⟨dg.of G.at',fun t ht=>?_⟩⟩
         refine q (.ref t) ls _ ⟨t,zs,rfl,aq,aO (fun _ _ z=>z.ts (G.same.tups.new ht)) pz⟩ ⟨by omega,fun l hl=>(gl l hl).1,by rw [el]; exact pw⟩ (fun l hl=>(gl l hl).2) ?_ ?_
         . obtain ⟨n,e,n0⟩:=pk
           exact (show bD jT p from ⟨n,G.same _ _ (s9 _ _ e),n0⟩).new ht
         . exact (((aP.of sH).trans (sb.trans (aP.of (s9.trans G.same)))).new ht)
       . refine cC fun mz bK=>?_
         obtain ⟨zs,ls,G,pz,el,gl⟩:=afQ
         subst bK
         rw [List.getElem?_map] at hx
         obtain ⟨a,ea,rfl⟩:∃ a,as[i]?=some a/\x=V.ref a:=by
           cases e:as[i]? with
           | none=>rw [e] at hx; cases hx
           | some a=>rw [e] at hx; exact ⟨a,rfl,(Option.some.inj hx).symm⟩
         have li:i<ks'.length:=by rw [List.length_map] at hi; omega
         have eki:ks'[i]?=some ks'[i]:=List.getElem?_eq_getElem li
         have hka:H' a=some (.tup ((kP ks'[i]).map kV)):=ha i a _ ea eki
         have mk:kP ks'[i]∈kf.map (·.1):=by
           rw [ek]
           exact List.mem_map_of_mem (pm'.mem_iff.mp (List.getElem_mem li))
         obtain ⟨v,ev,mv⟩:=O7 mk
         refine cC fun mz bK=>?_
         obtain ⟨l,w1,w2,w3⟩:=fo _ mv
         subst bK
         have el1:l.1=ks'[i]:=(Ye w1).symm
         have sg:Same H' jT:=s9.trans G.same
         refine ⟨F,v,rfl,ev ▸ mH.t (k:=kP ks'[i]) (sg _ _ eF) (sg _ _ hka),?_⟩
         have l2:=pz.length
         have l1:=congrArg List.length el
         rw [List.length_map,List.length_take] at l1
         refine ⟨zs,G.at',by omega,nx hi ⟨zs++[v],ls++[l],G.put hD v,fJ pz (.cons (w2.ts s9.tups) .nil),?_,fun l' hl'=>?_⟩⟩
         . rw [List.map_append,el,List.take_add_one,eki]
           show _++[l.1]=_++[ks'[i]]
           rw [el1]
         . rcases List.mem_append.mp hl' with z | z
           . exact gl l' z
           . rw [List.mem_singleton.mp z]; exact w3
end
end mW
namespace mW
open PySem L2 gY
def qu (K:PySem.W.Frag):Sp:=fun vs H Q _=>∃ (a:Addr) (ns:List Int) (k:Int),vs=[.ref a,.int k]/\dg K H a (ns.map V.int)/\(∀ n∈ns,Oz n)/\ns.length<=63/\0<=k/\k<=100/\∀ (x:V) (hs:List aJ) (ls:List Letter) (H':Hp),cU H' x hs ls->bw hs->bx hs ls->(∀ z∈hs.map aJ.name,z∈O8)->(∀ h∈hs,GoodW h)->(∃ m0,cR hs ls m0=true)->Same H H'->Q x H'
def PvG (a hd ln lh dh:Addr) (k d4:Int) (ss:List Str) (H3:Hp):Nat->St->Hp->Prop:=fun i σ H'=>∃ (vh:List V) (hs:List aJ) (kvs:List (Key × V)) (m:Nat) (o8 o9 gM jc:Option V),σ=[some (.ref a),some (.int k),some (.ref hd),some (.ref ln),some (.int (1+d4)),some (.ref lh),some (.ref dh),some (.int (10-(m:Int))),o8,o9,gM,jc]/\H' lh=some (.lst vh)/\Paired (fj H') vh hs/\H' dh=some (.dK kvs)/\kvs.map (·.1)=(namesOf hs).map Sum.inr/\(∀ n∈namesOf hs,∃ i:Int,dW kvs (.inr n)=some (.int i))/\namesOf hs=ss.take m/\m<=10/\hs.length=i/\hs.map aJ.name=O8.take i/\(∀ h∈hs,GoodW h)/\(∀ h∈hs,fM h (gW kvs)=true)/\Same H3 H'
section
variable {P:Program} {w:World} {K:PySem.W.Frag} {mg:Str->Option Value} {base:Heap} {t8:Tok}
theorem cW:bG ["_law_script","_law_k","_law_head","_law_names_here","_law_amount","_law_houses","_law_hidden","_law_room","_law_j","_law_rest","_law_house_here","_law_more"] ["_law_script","_law_k"] (aA jO):=⟨rfl,rfl,rfl,by decide +kernel,rfl,by decide +kernel,by decide +kernel⟩
theorem CW {f qw zM dG sE oN:Addr} {fd qZ CZ dU vO q9:FuncData} (F:nG K "_law_ledger" "_law_ledger" jO f fd) (T:Txt mg t8)
   (vP:aX P w K mg base dM 2 qw qZ ["_law_script","_law_k"] (zx K)) (vQ:mg "_law_pack" = some (.ref qw)) (vR:PySem.W.keepIn K (.ref qw)=true) (vU:Binds K qZ ["_law_script","_law_k"] [])
   (T7:aX P w K mg base dM 2 zM CZ ["_law_pack_here","_law_amount"] zB) (T8:mg "_law_names" = some (.ref zM)) (T9:PySem.W.keepIn K (.ref zM)=true) (Ua:Binds K CZ ["_law_pack_here","_law_amount"] [])
   (cH:aX P w K mg base dM 2 dG dU ["_law_pack_here","_law_size"] mR) (cI:mg "_law_take" = some (.ref dG)) (cJ:PySem.W.keepIn K (.ref dG)=true) (cL:Binds K dU ["_law_pack_here","_law_size"] [])
   (K5:aX P w K mg base dM 2 sE vO ["_law_pack_here","_law_name","_law_names_here","_law_room"] sy) (K6:mg "_law_house" = some (.ref sE)) (K7:PySem.W.keepIn K (.ref sE)=true) (K8:Binds K vO ["_law_pack_here","_law_name","_law_names_here","_law_room"] [])
   (Dc:aX P w K mg base dM 2 oN q9 ["_law_pack_here","_law_houses","_law_hidden"] m5) (Dd:mg "_law_letters" = some (.ref oN)) (Df:PySem.W.keepIn K (.ref oN)=true) (Dg:Binds K q9 ["_law_pack_here","_law_houses","_law_hidden"] []):aX P w K mg base dM 3 f fd ["_law_script","_law_k"] (qu K):=by
 refine F.ok cW (fun vs H Q E h=>?_) (fun cdv A outer s H vs Q E hr h=>?_)
 . obtain ⟨a,ns,k,rfl,_⟩:=h
   rfl
 . obtain ⟨a,ns,k,rfl,ha,hb,hl,k0,k1,q⟩:=h
   have mJ:sizeLine=16777216:=sizeLine_eq
   refine ⟨_,(au (aV (i:=2) cW.nd rfl (Or.inl rfl) (aM vP hr rfl vQ vR vU .nil bf (aj (pV 0) (aj (pV 1) ak)))) (au (aV (i:=3) cW.nd rfl (Or.inl rfl) (aM T7 hr rfl T8 T9 Ua .nil bf (aj (pV 2) (aj aD ak)))) (au (aV (i:=4) cW.nd rfl (Or.inl rfl) (aY gF aD (aM cH hr rfl cI cJ cL .nil bf (aj (pV 2) (aj aD ak))))) (au (aV (i:=5) cW.nd rfl (Or.inl rfl) (fQ ak)) (au (aV (i:=6) cW.nd rfl (Or.inl rfl) nU) (au (aV (i:=7) cW.nd rfl (Or.inl rfl) aD) (au (cY PassesOwn.never rfl (fP rfl T.range (aj (pV 4) ak)) (aB (i:=8) cW.nd rfl (Or.inl rfl)) (au (aV (i:=9) cW.nd rfl (Or.inl rfl) (gR yK (pV 3) (J7 (aU xG rfl T.len PySem.boot_len (aj (pV 6) ak))) (J7 aD))) (au (kY (aM K5 hr rfl K6 K7 K8 .nil bf (aj (aM vP hr rfl vQ vR vU .nil bf (aj (pV 0) (aj (aY gF (aY gF (pV 1) aD) (pV 8)) ak))) (aj (cP Eo (fQ (aj gZ (aj gZ (aj gZ (aj gZ ak))))) (pV 8) (fun _ _=>rfl)) (aj (pV 9) (aj (pV 7) ak))))) (cT rfl (aG (aB (i:=10) cW.nd rfl (Or.inl rfl)) (aG (aB (i:=11) cW.nd rfl (Or.inl rfl)) bR)))) (au (gB (j9 PySem.F.plainAttrs_list PySem.F.slot_list_append PySem.F.type_list_append dD (pV 5) (aj (pV 10) ak))) (au (gB (j9 PySem.F.plainAttrs_dict PySem.F.slot_dict_update PySem.F.type_dict_update Ke (pV 6) (aj (pV 11) ak))) (aH (aV (i:=7) cW.nd rfl (Or.inl rfl) (aY jB aD (aU xG rfl T.len PySem.boot_len (aj (pV 6) ak)))))))))) (aH (aZ (bI (aj (dB bY rfl T.tuple PyProof.Rows.boot_tuple (aj (pV 5) ak)) (aj (aM Dc hr rfl Dd Df Dg .nil bf (aj (aM vP hr rfl vQ vR vU .nil bf (aj (pV 0) (aj (aY gF (pV 1) aD) ak))) (aj (pV 5) (aj (pV 6) ak)))) ak)))))))))))),?_⟩
   refine jf fun U1 hU1=>?_
   refine ⟨a,ns,k,rfl,ha,hb,hl,k0,by omega,fun hd H1 fhd pk1 s1=>?_⟩
   show U1 _ _
   subst hU1
   refine jf fun U2 hU2=>?_
   refine ⟨hd,rfl,pk1,fun ln ss H2 fln eln l12 nd gs nq pk2 Ij=>?_⟩
   show U2 _ _
   subst hU2
   have S2:Same H H2:=qT s1 fhd Ij
   refine jf fun U3 hU3=>?_
   refine ⟨hd,4,rfl,pk2,by decide,by decide,fun d4 H3 d4a d4b pk3 sb3=>?_⟩
   show U3 _ _
   subst hU3
   have S3:Same H H3:=qT S2 fhd sb3
   have afR:ln≠hd:=fun z=>by obtain ⟨n,e,_⟩:=pk1; rw [<- z,fln] at e; cases e
   have abJ:H3 ln=some (.lst (ss.map V.str)):=sb3 ln _ afR eln
   refine jf fun U4 hU4=>?_
   refine ⟨Nat.zero_le _,fun lh flh=>?_⟩
   show U4 _ _
   subst hU4
   refine jf fun U5 hU5=>?_
   refine fun dh fdh=>?_
   show U5 _ _
   subst hU5
   have S4:Same H3 (upd (upd H3 lh (.lst [])) dh (.dK [])):=((Same.refl H3).upd flh).upd fdh
   have nld:lh≠dh:=aN aq fdh
   have anp:=S4 _ _ abJ
   have e12:ss.length=12:=l12
   refine ⟨1+d4,rfl,by omega,by omega,iz (lo:=0) (n:=(1+d4).toNat) (PvG a hd ln lh dh k d4 ss H3) ⟨[],[],[],0,none,none,none,none,rfl,(aL nld).trans aq,.nil,aq,rfl,fun n hn=>by simp [namesOf] at hn,rfl,by decide,rfl,rfl,fun h hh=>by simp at hh,fun h hh=>by simp at hh,S4⟩ (fun i σ H' hi afU=>?_) (fun σ H' afV=>?_)⟩
   . refine cC fun mz bK=>?_
     obtain ⟨vh,hs,kvs,m,o8,o9,gM,jc,eσ,elh,ph,edh,keys,vals,nms,m10,lhs,hnm,gh,kh,S⟩:=afU
     subst bK
     subst eσ
     have i4:i<4:=by omega
     have lkv:kvs.length=m:=by
       have z:=congrArg List.length keys
       rw [List.length_map,List.length_map,nms,List.length_take] at z
       omega
     have SH:Same H H':=S3.trans S
     refine ⟨dh,kvs,rfl,edh,?_⟩
     refine ⟨ln,_,rfl,dg.of (S _ _ abJ),fun lr flr=>?_⟩
     have afW:nQ (ss.map V.str) (some (kvs.length:Int)) (some 10)=((ss.take 10).drop m).map V.str:=by
       unfold nQ
       rw [show (some 10:Option Int)=some ((10:Nat):Int) from rfl,HT.iJ,HT.iJ,List.length_map,l12,lkv,Nat.min_eq_left (show m<=12 by omega),Nat.min_eq_left (show 10<=12 by decide),<- List.map_drop,<- List.map_take,List.drop_take]
     rw [afW]
     have s5:Same H' (upd H' lr (.lst (((ss.take 10).drop m).map V.str))):=(Same.refl H').upd flr
     generalize eH5:upd H' lr (.lst (((ss.take 10).drop m).map V.str))=H5 at s5
     have elr:H5 lr=some (.lst (((ss.take 10).drop m).map V.str)):=by rw [<- eH5]; exact aq
     have SH5:Same H H5:=SH.trans s5
     refine ⟨a,ns,k+1+(0+(i:Int)),rfl,Cd SH5 ha,hb,hl,by omega,by omega,fun p H6 fp Qo s6=>?_⟩
     refine ⟨by show 4<=sizeLine; omega,fun l4 fl4=>?_⟩
     obtain ⟨nm,enm⟩:∃ nm,O8[i]?=some nm:=⟨O8[i],List.getElem?_eq_getElem (show i<4 from i4)⟩
     have eat:yH (O8.map V.str) (0+(i:Int))=some (.str nm):=by
       rw [Int.zero_add]
       exact gQ (by rw [List.getElem?_map,enm]; rfl)
     refine qM (xs:=O8.map V.str) aq eat ?_
     have gnm:Good nm:=Tv nm (List.mem_of_getElem? enm)
     have s7:Same H5 (upd H6 l4 (.lst (O8.map V.str))):=s6.upd fl4
     have pk7:bD (upd H6 l4 (.lst (O8.map V.str))) p:=Qo.new fl4
     have ssl:((ss.take 10).drop m).length=10-m:=by rw [List.length_drop,List.length_take]; omega
     have sub:((ss.take 10).drop m).Sublist ss:=(List.drop_sublist _ _).trans (List.take_sublist _ _)
     refine ⟨p,nm,lr,(ss.take 10).drop m,10-(m:Int),rfl,pk7,gnm,s7 _ _ elr,by omega,sub.nodup nd,fun s hs'=>gs s (sub.subset hs'),fun r d hv hh kv m' H8 fr fd er hat ghh ehn Gf le rm ed Jd vals2 pk8 sb8 kph=>?_⟩
     have fp5:H5 p=none:=fp
     have S8:Same H5 H8:=qT s7 fp5 sb8
     refine ⟨r,_,rfl,bM.of er,rfl,_,_,rfl,_,_,rfl,rfl,?_⟩
     have Qp:H8 lh=some (.lst vh):=S8 _ _ (s5 _ _ elh)
     have YS:H8 dh=some (.dK kvs):=S8 _ _ (s5 _ _ edh)
     refine ⟨.inl ⟨rfl,_,dg.of Qp⟩,?_⟩
     have lv:=ph.length
     refine ⟨lh,vh,_,rfl,rfl,Qp,by omega,?_⟩
     have ndd:dh≠d:=fun z=>by
       rw [<- z] at fd
       have w:=(s7 _ _ (s5 _ _ edh))
       cases (fd.symm.trans w)
     have Wh:dh≠lh:=fun z=>by rw [z,Qp] at YS; cases YS
     have afZ:d≠lh:=fun z=>by rw [z,Qp] at ed; cases ed
     have YT:upd H8 lh (.lst (vh++[hv])) dh=some (.dK kvs):=(aL Wh).trans YS
     have ed9:upd H8 lh (.lst (vh++[hv])) d=some (.dK kv):=(aL afZ).trans ed
     have af0:kv.length=m':=by
       have z:=congrArg List.length Jd
       rw [List.length_map,List.length_map,List.length_take] at z
       omega
     refine ⟨.inr (.inr (.inl ⟨rfl,.inl ⟨_,YT⟩⟩)),?_⟩
     refine ⟨dh,d,kvs,kv,rfl,rfl,ndd,YT,ed9,by omega,?_⟩
     have mm:m+m'<=10:=by omega
     have e10:namesOf (hs++[hh])=ss.take (m+m'):=by
       have z:namesOf (hs++[hh])=namesOf hs++aR hh:=by unfold namesOf; rw [List.flatMap_append]; simp
       rw [z,nms,Gf,List.drop_take,List.take_take,List.take_add,Nat.min_eq_left (by omega)]
     have ndk:(ss.take (m+m')).Nodup:=(List.take_sublist _ _).nodup nd
     have YW:ss.take (m+m')=ss.take m++((ss.take 10).drop m).take m':=by
       rw [<- e10]
       unfold namesOf
       rw [List.flatMap_append]
       have z:hs.flatMap aR=ss.take m:=nms
       rw [z,<- Gf]; simp
     have inj:∀ l:List Str,l.Nodup->(l.map (Sum.inr:Str->Key)).Nodup:=fun l hl=>by
       rw [List.nodup_iff_pairwise_ne,List.pairwise_map]
       exact (List.nodup_iff_pairwise_ne.mp hl).imp fun h z=>h (Sum.inr.inj z)
     have abN:=inj _ ndk
     rw [YW,List.map_append] at abN
     obtain ⟨nda,ndb,ndc⟩:=List.nodup_append.mp abN
     have emk:gA kvs kv=kvs++kv:=qp kv kvs (by rw [Jd]; exact ndb) (fun x hx z=>by
       rw [Jd] at hx
       rw [keys,nms] at z
       exact ndc x z x hx rfl)
     rw [emk]
     have tt:dX H8 (upd (upd H8 lh (.lst (vh++[hv]))) dh (.dK (kvs++kv))):=((dX.refl H8).put Qp (fun _ z=>nomatch z)).put YT (fun _ z=>nomatch z)
     refine ⟨dh,_,rfl,aq,?_⟩
     refine ⟨vh++[hv],hs++[hh],kvs++kv,m+m',some (.int (0+(i:Int))),some (.ref lr),some hv,some (.ref d),?_,(aL (Ne.symm Wh)).trans aq,?_,aq,?_,?_,e10,mm,by rw [List.length_append,lhs]; rfl,?_,?_,?_,?_⟩
     . have el:(10-((kvs++kv).length:Int))=10-((m+m':Nat):Int):=by rw [List.length_append,lkv,af0]
       show [_,_,_,_,_,_,_,some (V.int (10-((kvs++kv).length:Int))),_,_,_,_]=_
       rw [el]
     . refine fJ (aO (fun _ _ z=>(z.ts s5.tups).ts (S8.tups.trans tt)) ph) (.cons (hat.ts tt) .nil)
     . rw [List.map_append,keys,Jd,e10,nms,YW,List.map_append]
     . intro n hn
       rw [e10,YW] at hn
       rw [vC]
       rcases List.mem_append.mp hn with z | z
       . obtain ⟨v,ev⟩:=vals n (by rw [nms]; exact z)
         exact ⟨v,by rw [ev]; rfl⟩
       . obtain ⟨v,ev⟩:=vals2 n z
         refine ⟨v,?_⟩
         have no:dW kvs (.inr n)=none:=xR (fun y=>by
           rw [keys,nms] at y
           exact ndc (Sum.inr n) y (Sum.inr n) (List.mem_map_of_mem z) rfl)
         rw [no,ev]; rfl
     . rw [List.map_append,hnm,List.take_add_one,enm,<- ehn]; rfl
     . intro h hh'
       rcases List.mem_append.mp hh' with z | z
       . exact gh h z
       . rw [List.mem_singleton.mp z]; exact ghh
     . have a1:∀ n∈namesOf hs,gW (kvs++kv) n=gW kvs n:=fun n hn=>by
         obtain ⟨v,ev⟩:=vals n hn
         exact KY ev
       have a2:∀ n∈aR hh,gW (kvs++kv) n=gW kv n:=fun n hn=>KZ (xR (fun y=>by
           rw [keys,nms] at y
           rw [Gf] at hn
           exact ndc (Sum.inr n) y (Sum.inr n) (List.mem_map_of_mem hn) rfl))
       intro h hh'
       rcases List.mem_append.mp hh' with z | z
       . rw [xY fun n hn=>a1 n (List.mem_flatMap.mpr ⟨h,z,hn⟩)]; exact kh h z
       . rw [List.mem_singleton.mp z,xY a2]; exact kph
     . intro b o e
       have z:=S8 _ _ (s5 _ _ (S _ _ e))
       have n1:b≠lh:=aN e flh
       have n2:b≠dh:=fun y=>by
         rw [y] at e
         have:=(aL (o:=.lst []) (Ne.symm nld)).trans e
         rw [fdh] at this; cases this
       rw [aL n2,aL n1]; exact z
   . refine cC fun mz bK=>?_
     obtain ⟨vh,hs,kvs,m,o8,o9,gM,jc,eσ,elh,ph,edh,keys,vals,nms,m10,lhs,hnm,gh,kh,S⟩:=afV
     subst bK
     subst eσ
     have SH:Same H H':=S3.trans S
     have lv:=ph.length
     have ln':hs.length<=4:=by omega
     refine ⟨lh,vh,rfl,.inl ⟨dg.of elh,fun t1 ft1=>?_⟩⟩
     have s5:Same H' (upd H' t1 (.tup vh)):=(Same.refl H').upd ft1
     generalize eH5:upd H' t1 (.tup vh)=H5 at s5
     have et1:H5 t1=some (.tup vh):=by rw [<- eH5]; exact aq
     refine ⟨a,ns,k+5,rfl,Cd (SH.trans s5) ha,hb,hl,by omega,by omega,fun p H6 fp Qo s6=>?_⟩
     have s56:Same H' H6:=s5.trans s6
     have ndn:(namesOf hs).Nodup:=by rw [nms]; exact (List.take_sublist _ _).nodup nd
     have abO:(namesOf hs).length<=24:=by rw [nms,List.length_take]; omega
     refine ⟨p,lh,dh,vh,hs,kvs,rfl,Qo,s56 _ _ elh,aO (fun _ _ z=>z.ts s56.tups) ph,by omega,(fun h hh=>(gh h hh).tocD),ndn,abO,s56 _ _ edh,keys,vals,fun x ls H7 lat gl kls pk7 Wi=>?_⟩
     have S7:Same H5 H7:=qT s6 fp Wi
     refine ⟨by show 2<=sizeLine; omega,fun t ft=>?_⟩
     have S7t:Same H5 (upd H7 t (.tup [.ref t1,x])):=S7.upd ft
     refine q (.ref t) hs ls _ ⟨t,.ref t1,x,rfl,aq,⟨t1,vh,rfl,S7t _ _ et1,aO (fun _ _ z=>z.ts (s5.trans S7t).tups) ph⟩,lat.ts ((dX.refl H7).new ft)⟩ ⟨by omega,by omega,(fun h hh=>(gh h hh).tocD),by rw [hnm]; exact (List.take_sublist _ _).nodup O9,ndn,abO⟩ gl (fun z hz=>List.mem_of_mem_take (hnm ▸ hz)) gh ⟨_,uJ kh kls⟩ (SH.trans (s5.trans S7t))
theorem uK:bG ["_law_ledger_here","_law_found","_law_house_here","_law_run"] ["_law_ledger_here"] (aA vI):=⟨rfl,rfl,rfl,by decide +kernel,rfl,by decide +kernel,by decide +kernel⟩
theorem Ub {f:Addr} {fd:FuncData} (F:nG K "_law_rows" "_law_rows" vI f fd) (T:Txt mg t8):aX P w K mg base dM 1 f fd ["_law_ledger_here"] FP:=by
 refine F.ok uK (fun vs H Q E h=>?_) (fun cdv A outer s H vs Q E hr h=>?_)
 . obtain ⟨x,hs,ls,rfl,_⟩:=h
   rfl
 . obtain ⟨x,hs,ls,rfl,⟨a,y,z,rfl,ha,⟨c,vh,rfl,hc,ph⟩,hL⟩,gh,q⟩:=h
   have mJ:sizeLine=16777216:=sizeLine_eq
   refine ⟨_,(au (aV (i:=1) uK.nd rfl (Or.inl rfl) (fQ ak)) (au (cY PassesOwn.never rfl (cX (cP jC (pV 0) aD (fun _ _=>rfl))) (aB (i:=2) uK.nd rfl (Or.inl rfl)) (aH (cY PassesOwn.never rfl (cX (cP jC (pV 2) aD (fun _ _=>rfl))) (aB (i:=3) uK.nd rfl (Or.inl rfl)) (aH (gB (j9 PySem.F.plainAttrs_list PySem.F.slot_list_extend PySem.F.type_list_extend JT (pV 1) (aj (dJ (g8:=aA vI) (own:=["_law_row","_law_reading"]) (cap:=[]) (ix:=[]) rfl rfl ⟨rfl,by decide +kernel,by decide +kernel,by decide +kernel,rfl,by decide +kernel⟩ (cX (pV 3)) (fun b=>(cT rfl (aG (aB (i:=0) (show (["_law_row","_law_reading"]:List Str).Nodup by decide +kernel) rfl (Or.inl rfl)) (aG (aB (i:=1) (show (["_law_row","_law_reading"]:List Str).Nodup by decide +kernel) rfl (Or.inl rfl)) bR)))) (fun b=>bU) (fun b=>(pV 0))) ak))))))) (aH (aZ (aU tE rfl T.sorted PyProof.Rows.boot_sorted (aj (pV 1) ak)))))),?_⟩
   refine ⟨Nat.zero_le _,fun D hD=>?_⟩
   have s0:Same H (upd H D (.lst [])):=(Same.refl H).upd hD
   refine gj (bM.of (s0 _ _ ha)) (i:=0) (v:=.ref c) (by rfl) ?_
   refine ⟨c,rfl,⟨_,bM.of (s0 _ _ hc)⟩,gP (xs:=vh) (fun i σ H'=>∃ o2 o3:Option V,σ=[some (.ref a),some (.ref D),o2,o3]/\fB H H' D (((hs.take i).flatMap aR).map V.str)) ⟨none,none,rfl,fB.start hD⟩ (fun i σ H' _ af5=>by obtain ⟨_,_,_,G⟩:=af5; exact bM.of (G.same _ _ hc)) (fun i x σ H' hx af6=>?_) (fun σ H' af7=>?_)⟩
   . refine cC fun mz bK=>?_
     obtain ⟨o2,o3,eσ,G⟩:=af6
     subst bK
     subst eσ
     refine cC fun mz bK=>?_
     obtain ⟨hh,hhi,b,d,af8,gb,c2,vr,af9,gc,pr⟩:=aQ ph hx
     subst bK
     subst af8
     subst af9
     refine gj (bM.of (G.same _ _ gb)) (i:=4) (v:=.ref c2) (by rfl) ?_
     refine ⟨c2,rfl,⟨_,bM.of (G.same _ _ gc)⟩,gP (xs:=vr) (fun j σ H'=>∃ o3:Option V,σ=[some (.ref a),some (.ref D),some (.ref b),o3]/\fB H H' D (((hs.take i).flatMap aR++(hh.runs.take j).flatten.map Prod.fst).map V.str)) ⟨o3,rfl,by simpa using G⟩ (fun j σ H' _ aga=>by obtain ⟨_,_,G⟩:=aga; exact bM.of (G.same _ _ gc)) (fun j y σ H' hy agb=>?_) (fun σ H' agc=>?_)⟩
     . obtain ⟨o3,eσ,G⟩:=agb
       subst eσ
       refine cC fun mz bK=>?_
       obtain ⟨r,hri,c3,ws,agf,gw,pw⟩:=aQ pr hy
       subst bK
       subst agf
       have gd:=gh.all hh (List.mem_of_getElem? hhi)
       have gr:=gd.runs r (List.mem_of_getElem? hri)
       have few:=gr.few
       have lw:=pw.length
       refine ⟨.inl ⟨rfl,_,dg.of G.at'⟩,?_⟩
       refine ⟨c3,rfl,⟨_,bM.of (G.same _ _ gw)⟩,fun E' hE=>comp_map (xs:=ws) (ys:=r.map fun x=>V.str x.1) hE (bM.of (G.same _ _ gw)) (by omega) (by rw [List.length_map]; omega) (fun t x H2 hx s2 b R hR=>?_) (fun H2 s2 e2=>?_)⟩
       . obtain ⟨rr,hrr,ra⟩:=aQ pw hx
         obtain ⟨a1,rfl,g1⟩:=ra.ts (G.same.trans s2).tups
         refine ⟨a1,_,rfl,bM.of g1,rfl,_,_,rfl,_,_,rfl,rfl,?_⟩
         exact hR H2 _ (by rw [List.getElem?_map,hrr]; rfl) (Same.refl _)
       . have G2:=G.more s2
         have total:((hs.take i).flatMap aR++(hh.runs.take j).flatten.map Prod.fst).length+r.length<=24:=by
           have z:=gh.few
           have e1:hs=hs.take i++(hh :: hs.drop (i+1)):=by
             obtain ⟨li,fi⟩:=List.getElem?_eq_some_iff.mp hhi
             rw [<- fi,List.getElem_cons_drop,List.take_append_drop]
           have e2:hh.runs=hh.runs.take j++(r :: hh.runs.drop (j+1)):=by
             obtain ⟨li,fi⟩:=List.getElem?_eq_some_iff.mp hri
             rw [<- fi,List.getElem_cons_drop,List.take_append_drop]
           have e3:namesOf hs=(hs.take i).flatMap aR++(aR hh++(hs.drop (i+1)).flatMap aR):=by
             unfold namesOf
             conv=>lhs; rw [e1]
             rw [List.flatMap_append,List.flatMap_cons]
           have e4:aR hh=((hh.runs.take j).flatten++(r++(hh.runs.drop (j+1)).flatten)).map Prod.fst:=by
             unfold aR bL
             conv=>lhs; rw [e2]
             rw [List.flatten_append,List.flatten_cons]
           rw [e3,e4] at z
           simp only [List.length_append,List.length_map] at z ⊢
           omega
         refine ⟨D,E',_,_,rfl,rfl,G2.at',e2,by rw [List.length_map,List.length_map]; omega,?_⟩
         refine ⟨_,rfl,⟨?_,fun b o e=>by rw [aL (aN e hD)]; exact G2.same _ _ e⟩⟩
         rw [aq,List.take_add_one,hri,List.flatten_append]
         simp
     . obtain ⟨o3,eσ,G⟩:=agc
       subst eσ
       refine ⟨_,_,rfl,?_⟩
       rw [pr.length,List.take_length] at G
       rw [List.take_add_one,hhi,List.flatMap_append]
       simpa [aR,bL] using G
   . refine cC fun mz bK=>?_
     obtain ⟨o2,o3,eσ,G⟩:=af7
     subst bK
     subst eσ
     have e:=G.at'
     rw [ph.length,List.take_length] at e
     have few:=gh.few
     refine ⟨D,namesOf hs,rfl,dg.of e,by omega,fun l ss hl pm so=>?_⟩
     exact q l ss _ aq (G.same.upd hl) pm so
end
end mW
namespace mW
open PySem L2 gY
section
variable {P:Program} {w:World} {K:PySem.W.Frag} {mg:Str->Option Value} {base:Heap} {t8:Tok}
theorem Qq:bG ["thing","many"] ["thing","many"] (aA rU):=⟨rfl,rfl,rfl,by decide +kernel,rfl,by decide +kernel,by decide +kernel⟩
theorem Qt {f:Addr} {fd:FuncData} (F:nG K "has_parts" "has_parts" rU f fd) (T:Txt mg t8):aX P w K mg base dM 1 f fd ["thing","many"] zq:=by
 refine F.ok Qq (fun vs H Q E h=>?_) (fun cdv A outer s H vs Q E hr h=>?_)
 . obtain ⟨x,d,n,rfl,_⟩:=h
   rfl
 . obtain ⟨x,d,n,rfl,hd,q⟩:=h
   obtain ⟨_,⟨T',ty,kt⟩,_⟩:=hd.kind (K:=K)
   refine ⟨_,(aH (aZ (Bp (aU oh rfl T.isi PyProof.Rows.boot_isinstance (aj (pV 0) (aj (qH (v:=.ty "tuple") rfl T.tuple PyProof.Rows.boot_tuple rfl) ak))) (uN (jH oEq (aU bT rfl T.len PySem.boot_len (aj (pV 0) ak)) (pV 1) (bJ _)))))),?_⟩
   refine ⟨_,_,_,_,rfl,ty,kt,?_⟩
   cases d with
   | tup xs =>
     refine cC fun mz bK=>?_
     obtain ⟨a,vs,ez1,ha,l60,r⟩:=hd.iw
     subst bK
     subst ez1
     refine ⟨a,vs,rfl,.inr (bM.of ha),?_⟩
     show Q (.bl (decide ((vs.length:Int)=(n:Int)))) H
     have e:decide ((vs.length:Int)=(n:Int))=decide (xs.length=n):=by
       rw [r.len,Bool.eq_iff_iff,decide_eq_true_iff,decide_eq_true_iff]; omega
     rw [e]; exact q
   | _=>exact q
theorem Qu:bG ["thing"] ["thing"] (aA rW):=⟨rfl,rfl,rfl,by decide +kernel,rfl,by decide +kernel,by decide +kernel⟩
theorem Qv {f zO Gg zP:Addr} {fd Di Je Dj:FuncData} (F:nG K "is_named_number" "is_named_number" rW f fd)
   (Uc:aX P w K mg base dM 1 zO Di ["thing","many"] zq) (Ud:mg "has_parts" = some (.ref zO)) (Ue:PySem.W.keepIn K (.ref zO)=true) (Ug:Binds K Di ["thing","many"] [])
   (YX:aX P w K mg base dM 1 Gg Je ["thing"] (Fv K)) (YZ:mg "is_name" = some (.ref Gg)) (Y0:PySem.W.keepIn K (.ref Gg)=true) (Y4:Binds K Je ["thing"] [])
   (Uh:aX P w K mg base dM 1 zP Dj ["thing"] (zp K)) (Ui:mg "is_whole" = some (.ref zP)) (k_whole:PySem.W.keepIn K (.ref zP)=true) (Uj:Binds K Dj ["thing"] []):aX P w K mg base dM 2 f fd ["thing"] (spD eN):=by
 refine F.ok Qu (fun vs H Q E h=>?_) (fun cdv A outer s H vs Q E hr h=>?_)
 . obtain ⟨x,d,rfl,_⟩:=h
   rfl
 . obtain ⟨x,d,rfl,hd,q⟩:=h
   refine ⟨_,(aH (aZ (Bp (aM Uc hr rfl Ud Ue Ug .nil bf (aj (pV 0) (aj aD ak))) (Bp (aM YX hr rfl YZ Y0 Y4 .nil bf (aj (cP jC (pV 0) aD (fun _ _=>rfl)) ak)) (uN (aM Uh hr rfl Ui k_whole Uj .nil bf (aj (cP jC (pV 0) aD (fun _ _=>rfl)) ak))))))),?_⟩
   refine ⟨x,d,2,rfl,hd,?_⟩
   have no:∀ d',Fy d' 2=false->eN d'=false:=fun d' h=>by
     cases d' with
     | tup xs =>
       match xs,h with
       | [],_=>rfl
       | [_],_=>rfl
       | [_,_],h=>cases h
       | _ :: _ :: _ :: _,_=>rfl
     | _=>rfl
   cases e:Fy d 2 with
   | false =>
     have z:=q H (Same.refl H)
     rw [no d e] at z
     exact z
   | true =>
     cases d with
     | tup xs =>
       refine cC fun mz bK=>?_
       obtain ⟨a,vs,ez4,ha,l60,r⟩:=hd.iw
       subst bK
       subst ez4
       obtain ⟨y,z,rfl⟩:=len2 (of_decide_eq_true e)
       refine cC fun mz bK=>?_
       obtain ⟨v1,v2,ez5,h1,h2⟩:=r.two
       subst bK
       subst ez5
       refine gj (bM.of ha) (i:=0) (v:=v1) (by rfl) ?_
       refine cC fun mz bK=>?_
       obtain ⟨th,_,_,n1⟩:=h1.kind (K:=K)
       subst bK
       refine ⟨v1,rfl,th,fun H1 s1=>?_⟩
       rw [n1]
       cases e2:Ca y with
       | false =>
         have w:=q H1 s1
         simp only [eN,e2,Bool.false_and] at w
         exact w
       | true =>
         refine gj (bM.of (s1 _ _ ha)) (i:=1) (v:=v2) (by rfl) ?_
         refine cC fun mz bK=>?_
         obtain ⟨th2,_,w2,_⟩:=(h2.same s1).kind (K:=K)
         subst bK
         refine ⟨v2,rfl,th2,?_⟩
         rw [w2]
         have w:=q H1 s1
         simp only [eN,e2,Bool.true_and] at w
         exact w
     | _=>cases e
theorem K9:bG ["house"] ["house"] (aA mX):=⟨rfl,rfl,rfl,by decide +kernel,rfl,by decide +kernel,by decide +kernel⟩
theorem La {f:Addr} {fd:FuncData} (F:nG K "rows_in" "rows_in" mX f fd):aX P w K mg base dM 1 f fd ["house"] oF:=by
 refine F.ok K9 (fun vs H Q E h=>?_) (fun cdv A outer s H vs Q E hr h=>?_)
 . obtain ⟨x,hh,rfl,_⟩:=h
   rfl
 . obtain ⟨x,hh,rfl,⟨a,b,rfl,ha,c,vs,rfl,hc,pr⟩,gd,q⟩:=h
   have mJ:sizeLine=16777216:=sizeLine_eq
   refine ⟨_,(aH (aZ (Bs (g8:=aA mX) (own:=["run","row"]) (cap:=[]) (ix:=[]) rfl rfl ⟨rfl,by decide +kernel,by decide +kernel,by decide +kernel,rfl,by decide +kernel⟩ (cX (cP jC (pV 0) aD (fun _ _=>rfl))) (fun b=>(aB (i:=0) (show (["run","row"]:List Str).Nodup by decide +kernel) rfl (Or.inl rfl))) (fun b=>bU) (fun b=>cX (pV 0)) (fun b=>(aB (i:=1) (show (["run","row"]:List Str).Nodup by decide +kernel) rfl (Or.inl rfl))) (fun b=>bU) (fun b=>pV 1)))),?_⟩
   refine gj (bM.of ha) (i:=4) (v:=.ref c) (by rfl) ?_
   refine ⟨c,rfl,⟨_,bM.of hc⟩,fun D hD=>⟨WS vs.length (fun i σ H'=>∃ o1 o2 zs,σ=[o1,o2]/\fB H H' D zs/\Paired (dZ H) zs (hh.runs.take i).flatten),ws0 ⟨none,none,[],rfl,fB.start hD,.nil⟩,fun b=>yW (xs:=vs) _ (fun i σ H' _ hz1=>by obtain ⟨_,_,_,_,G,_⟩:=hz1; exact bM.of (G.same _ _ hc)) (fun σ H' hz2=>?_) (fun i x σ H' hx hi hz3=>?_)⟩⟩
   . refine cC fun mz bK=>?_
     obtain ⟨_,_,zs,_,G,pz⟩:=hz2
     subst bK
     refine q D zs H' hD G.at' G.same ?_
     rw [pr.length,List.take_length] at pz
     exact aO (fun _ _ z=>z.ts G.same.tups) pz
   . refine cC fun mz bK=>?_
     obtain ⟨o1,o2,zs,e,G,pz⟩:=hz3
     subst bK
     subst e
     refine cC fun mz bK=>?_
     obtain ⟨r,hr',c2,ws,agg,hc2,pr2⟩:=aQ pr hx
     subst bK
     subst agg
     have gr:=gd.runs r (List.mem_of_getElem? hr')
     refine ⟨c2,rfl,⟨_,bM.of (G.same _ _ hc2)⟩,WS ws.length (fun j σ jT=>∃ o2 zs',σ=[some (.ref c2),o2]/\fB H jT D zs'/\Paired (dZ H) zs' ((hh.runs.take i).flatten++r.take j)),ws0 ⟨o2,zs,rfl,G,by rw [List.take_zero,List.append_nil]; exact pz⟩,yW (xs:=ws) _ (fun j σ jT _ hz1=>by obtain ⟨_,_,_,G',_⟩:=hz1; exact bM.of (G'.same _ _ hc2)) (fun σ jT ⟨o2',zs',e',G',pz'⟩=>nxs hi ⟨_,_,zs',e',G',?_⟩) (fun j y σ jT hy hj hz3=>?_)⟩
     . rw [pr2.length,List.take_length] at pz'
       rw [List.take_add_one,hr',List.flatten_append]
       simpa using pz'
     . refine cC fun mz bK=>?_
       obtain ⟨o2',zs',e',G',pz'⟩:=hz3
       subst bK
       subst e'
       obtain ⟨rr,hrr,ra⟩:=aQ pr2 hy
       have hl:=pz'.length
       have hl1:=qP (l:=hh.runs.take i) (n:=25) fun q hq=>(gd.runs q (List.mem_of_mem_take hq)).few
       have hl2:(hh.runs.take i).length<=25:=Nat.le_trans (List.length_take_le' i hh.runs) gd.few
       have hl3:(hh.runs.take i).length * 25<=25 * 25:=Nat.mul_le_mul_right 25 hl2
       have hl4:=gr.few
       rw [List.length_append,List.length_take] at hl
       refine ⟨zs',G'.at',by omega,nxs hj ⟨_,zs'++[y],rfl,G'.put hD y,?_⟩⟩
       rw [List.take_add_one,hrr,<- List.append_assoc]
       exact fJ pz' (.cons ra .nil)
theorem Dk:bG ["houses"] ["houses"] (aA jk):=⟨rfl,rfl,rfl,by decide +kernel,rfl,by decide +kernel,by decide +kernel⟩
theorem Dl {f gO:Addr} {fd iB:FuncData} (F:nG K "row_names" "row_names" jk f fd)
   (oO:aX P w K mg base dM 1 gO iB ["house"] oF) (oR:mg "rows_in" = some (.ref gO)) (oU:PySem.W.keepIn K (.ref gO)=true) (oV:Binds K iB ["house"] []):aX P w K mg base dM 2 f fd ["houses"] qm:=by
 refine F.ok Dk (fun vs H Q E h=>?_) (fun cdv A outer s H vs Q E hr h=>?_)
 . obtain ⟨x,hs,rfl,_⟩:=h
   rfl
 . obtain ⟨x,hs,rfl,⟨c,vs,rfl,hc,pr⟩,h6,gd,q⟩:=h
   have mJ:sizeLine=16777216:=sizeLine_eq
   refine ⟨_,(aH (aZ (Bs (g8:=aA jk) (own:=["house","name","reading"]) (cap:=[]) (ix:=[]) rfl rfl ⟨rfl,by decide +kernel,by decide +kernel,by decide +kernel,rfl,by decide +kernel⟩ (cX (pV 0)) (fun b=>(aB (i:=0) (show (["house","name","reading"]:List Str).Nodup by decide +kernel) rfl (Or.inl rfl))) (fun b=>bU) (fun b=>fO (aM oO hr rfl oR oU oV .nil bf (aj (pV 0) ak))) (fun b=>(cT rfl (aG (aB (i:=1) (show (["house","name","reading"]:List Str).Nodup by decide +kernel) rfl (Or.inl rfl)) (aG (aB (i:=2) (show (["house","name","reading"]:List Str).Nodup by decide +kernel) rfl (Or.inl rfl)) bR)))) (fun b=>bU) (fun b=>pV 1)))),?_⟩
   refine ⟨c,rfl,⟨_,bM.of hc⟩,fun D hD=>⟨WS vs.length (fun i σ H'=>∃ o1 o2 o3,σ=[o1,o2,o3]/\fB H H' D (((hs.take i).flatMap aR).map V.str)),ws0 ⟨none,none,none,rfl,fB.start hD⟩,fun b=>yW (xs:=vs) _ (fun i σ H' _ hz4=>by obtain ⟨_,_,_,_,G⟩:=hz4; exact bM.of (G.same _ _ hc)) (fun σ H' hz5=>?_) (fun i x σ H' hx hi hz6=>?_)⟩⟩
   . refine cC fun mz bK=>?_
     obtain ⟨_,_,_,_,G⟩:=hz5
     subst bK
     refine q D H' hD ?_ G.same
     have e:=G.at'
     rw [pr.length,List.take_length] at e
     exact e
   . refine cC fun mz bK=>?_
     obtain ⟨o1,o2,o3,e,G⟩:=hz6
     subst bK
     subst e
     obtain ⟨h,hh',ha⟩:=aQ pr hx
     have gh:=gd h (List.mem_of_getElem? hh')
     refine ⟨x,h,rfl,ha.ts G.same.tups,gh,fun l zs H2 hl el s2 pz=>?_⟩
     have nlD:l≠D:=fun z=>by subst z; rw [G.at'] at hl; cases hl
     have G2:=G.more s2
     refine ⟨l,rfl,⟨_,dg.of el⟩,WS zs.length (fun j σ jT=>∃ o2 o3,σ=[some x,o2,o3]/\fB H jT D (((hs.take i).flatMap aR++((bL h).take j).map Prod.fst).map V.str)/\jT l=some (.lst zs)/\dX H2 jT),ws0 ⟨o2,o3,rfl,by simpa using G2,el,dX.refl _⟩,Tf (xs:=zs) _ (fun j σ jT _ hz4=>by obtain ⟨_,_,_,_,e',_⟩:=hz4; exact dg.of e') (fun σ jT ⟨o2',o3',e',G',_,_⟩=>nxs hi ⟨_,_,_,e',?_⟩) (fun j y σ jT hy hj hz6=>?_)⟩
     . rw [pz.length,List.take_length] at G'
       rw [List.take_add_one,hh',List.flatMap_append]
       simpa [aR] using G'
     . refine cC fun mz bK=>?_
       obtain ⟨o2',o3',e',G',el',t'⟩:=hz6
       subst bK
       subst e'
       obtain ⟨rr,hrr,ra⟩:=aQ pz hy
       obtain ⟨ra1,rfl,ra2⟩:=ra.ts t'
       refine ⟨ra1,_,rfl,bM.of ra2,rfl,_,_,rfl,_,_,rfl,rfl,?_⟩
       have hl1:((hs.take i).flatMap aR).length<=(hs.take i).length * 625:=by
         rw [List.flatMap_def]
         have z:=qP (l:=(hs.take i).map aR) (n:=625) fun q hq=>by
           obtain ⟨k,hk,rfl⟩:=List.mem_map.mp hq
           have z1:=(gd k (List.mem_of_mem_take hk)).len
           show ((bL k).map Prod.fst).length<=625
           rw [List.length_map]; exact z1
         rw [List.length_map] at z
         exact z
       have hl2:(hs.take i).length<=6:=Nat.le_trans (List.length_take_le' i hs) h6
       have hl3:(hs.take i).length * 625<=6 * 625:=Nat.mul_le_mul_right 625 hl2
       have hl4:=gh.len
       refine ⟨_,G'.at',by rw [List.length_map,List.length_append,List.length_map,List.length_take]; omega,nxs hj ⟨_,_,rfl,?_,?_,t'.put G'.at' (fun _ z=>nomatch z)⟩⟩
       . have z:=G'.put hD (V.str rr.1)
         rw [List.take_add_one,hrr]
         simpa using z
       . rw [aL nlD]; exact el'
end
end mW
namespace mW
open PySem L2 gY
def jX (H:Hp) (a:Addr) (m:Str->Int) (ns:List Str):Prop:=∃ kvs:List (Key × V),Rd H a (.dK kvs)/\∀ n∈ns,dW kvs (.inr n)=some (.int (m n))
theorem jX.same {H H':Hp} {a:Addr} {m:Str->Int} {ns:List Str} (h:jX H a m ns) (s:cQ H H'):jX H' a m ns:=let ⟨k,r,v⟩:=h; ⟨k,s.rd r,v⟩
theorem jX.part {H:Hp} {a:Addr} {m:Str->Int} {ns ms:List Str} (h:jX H a m ns) (s:∀ n∈ms,n∈ns):jX H a m ms:=let ⟨k,r,v⟩:=h; ⟨k,r,fun n hn=>v n (s n hn)⟩
theorem jX.get {H:Hp} {a:Addr} {m:Str->Int} {ns:List Str} {n:Str} (h:jX H a m ns) (hn:n∈ns):mH H a (.str n) (some (.int (m n))):=by
 obtain ⟨k,r,v⟩:=h
 exact .inl ⟨k,.inr n,r,rfl,(v n hn).symm⟩
def zQ:Sp:=fun vs H Q _=>∃ (x:V) (h:aJ),vs=[x]/\fj H x h/\cD h/\∀ (S:Addr) (P:List (Addr × V × V)) (H':Hp),H S=none->Same H H'->P.map (·.2)=((aR h).map V.str).zip (((aR h).drop 1).map V.str)->H' S=some (.lst (P.map fun q=>.ref q.1))->(∀ q∈P,H' q.1=some (.tup [q.2.1,q.2.2]))->Q (.ref S) H'
def vV:Sp:=fun vs H Q _=>∃ (x:V) (hs:List aJ) (ls:List Letter),vs=[x]/\cU H x hs ls/\bw hs/\∀ (p:Addr) (ss:List Str) (H':Hp),H p=none->H' p=some (.tup (ss.map V.str))->Same H H'->ss.Perm (namesOf hs)->PyProof.Rows.sortedS ss=true->Q (.ref p) H'
def vW:Sp:=fun vs H Q _=>∃ (x:V) (rs:List Row) (d:Int) (a:Addr) (m:Str->Int),vs=[x,.int d,.ref a]/\gH H x rs/\pF rs/\jX H a m (rs.map Prod.fst)/\∀ H',Same H H'->Q (.bl (cF rs d m)) H'
def vX:Sp:=fun vs H Q _=>∃ (x:V) (h:aJ) (a:Addr) (m:Str->Int),vs=[x,.ref a]/\fj H x h/\cD h/\jX H a m (aR h)/\∀ H',Same H H'->Q (.bl (fM h m)) H'
def sG:Sp:=fun vs H Q _=>∃ (x:V) (l:Letter) (a:Addr) (m:Str->Int),vs=[x,.ref a]/\fu H x l/\jX H a m [l.1.1,l.1.2]/\∀ H',Same H H'->Q (.bl (gk l m)) H'
theorem abQ (xs:List V):nQ xs (some 1) none=xs.drop 1:=by
 unfold nQ
 rw [HT.jz,show (some 1:Option Int)=some ((1:Nat):Int) from rfl,HT.iJ]
 rcases Nat.lt_or_ge 0 xs.length with z | z
 . rw [Nat.min_eq_left z,List.take_of_length_le (by rw [List.length_drop]; omega)]
 . have:xs=[]:=List.eq_nil_of_length_eq_zero (by omega)
   subst this; rfl
section
variable {H1:Hp} {D:Addr} {σ0:St} {g:BI->TG} {te:BI->TE} {End:Hp->Prop}
theorem lY {K:PySem.W.Frag} {a:Addr} {xs:List V} {ys:List V} (hD:H1 D=none) (hT:H1 a=some (.lst xs)) (hz:xs.length<=sizeLine) (hl:ys.length=xs.length)
   (turn:∀ (i:Nat) (x:V) (H':Hp),xs[i]?=some x->Same H1 H'->∀ b (R:VK),(∀ jT y,ys[i]?=some y->Same H' jT->R y jT)->g b x σ0 H' fun σ2 H2=>te b σ2 H2 R)
   (fin:∀ H',Same H1 H'->H' D=some (.lst ys)->End H') :
   ∃ W:Nat->Nat->Hp->Prop,(∃ m,W 0 m (upd H1 D (.lst [])))/\∀ b,nY (M4 K a) (g b) (En) (nZ D (te b)) σ0 End W :=
 pB (xs:=xs) (fun i H'=>fB H1 H' D (ys.take i)) (fB.start hD) (fun i H' _ G=>dg.of (G.same _ _ hT)) (fun H' G=>fin H' G.same (by have e:=G.at'; rw [<- hl,List.take_length] at e; exact e)) (fun i x H' hx hi G b =>
   turn i x H' hx G.same b _ fun jT y hy s=>⟨_,(G.more s).at',by rw [List.length_take]; omega,nx hi (by
     show fB H1 _ D (ys.take (i+1))
     rw [List.take_add_one,hy]
     exact (G.more s).put hD _)⟩)
end
theorem xZ {h:aJ} (g:cD h):(aR h).length<=625:=by
 show ((bL h).map Prod.fst).length<=625
 rw [List.length_map]; exact g.len
section
variable {P:Program} {w:World} {K:PySem.W.Frag} {mg:Str->Option Value} {base:Heap} {t8:Tok}
theorem Dm:bG ["house","names"] ["house"] (aA qt):=⟨rfl,rfl,rfl,by decide +kernel,rfl,by decide +kernel,by decide +kernel⟩
theorem Qw {f gO:Addr} {fd iB:FuncData} (F:nG K "neighbours_in" "neighbours_in" qt f fd) (T:Txt mg t8)
   (oO:aX P w K mg base dM 1 gO iB ["house"] oF) (oR:mg "rows_in" = some (.ref gO)) (oU:PySem.W.keepIn K (.ref gO)=true) (oV:Binds K iB ["house"] []):aX P w K mg base dM 2 f fd ["house"] zQ:=by
 refine F.ok Dm (fun vs H Q E h=>?_) (fun cdv A outer s H vs Q E hr h=>?_)
 . obtain ⟨x,hh,rfl,_⟩:=h
   rfl
 . obtain ⟨x,hh,rfl,hx,gd,q⟩:=h
   have mJ:sizeLine=16777216:=sizeLine_eq
   refine ⟨_,(au (qg (i:=1) Dm.nd rfl rfl (g8:=aA qt) (own:=["name","reading"]) (cap:=[]) (ix:=[]) rfl rfl ⟨rfl,by decide +kernel,by decide +kernel,by decide +kernel,rfl,by decide +kernel⟩ (fO (aM oO hr rfl oR oU oV .nil bf (aj (pV 0) ak))) (fun b=>(cT rfl (aG (aB (i:=0) (show (["name","reading"]:List Str).Nodup by decide +kernel) rfl (Or.inl rfl)) (aG (aB (i:=1) (show (["name","reading"]:List Str).Nodup by decide +kernel) rfl (Or.inl rfl)) bR)))) (fun b=>bU) (fun b=>(pV 0))) (aH (aZ (Fp rfl rfl T.list rfl T.zip (aj (pV 1) (aj (gR yK (pV 1) (J7 aD) mG) ak)))))),?_⟩
   refine ⟨x,hh,rfl,hx,gd,fun l zs H1 hl el s1 pz=>?_⟩
   have lz:=pz.length
   have ln:=xZ gd
   have lr:(aR hh).length=(bL hh).length:=by show ((bL hh).map Prod.fst).length=_; rw [List.length_map]
   refine ⟨l,rfl,⟨_,dg.of el⟩,fun D hD=>lY (xs:=zs) (ys:=(aR hh).map V.str) hD el (by omega) (by rw [List.length_map]; omega) (fun i y H2 hy s2 b R hR=>?_) (fun H2 s2 e2=>?_)⟩
   . obtain ⟨rr,hrr,ra⟩:=aQ pz hy
     obtain ⟨a1,rfl,g1⟩:=ra.ts s2.tups
     refine ⟨a1,_,rfl,bM.of g1,rfl,_,_,rfl,_,_,rfl,rfl,?_⟩
     exact hR H2 _ (by show ((bL hh).map Prod.fst |>.map V.str)[i]?=_; rw [List.getElem?_map,List.getElem?_map,hrr]; rfl) (Same.refl _)
   . refine ⟨D,(aR hh).map V.str,rfl,dg.of e2,fun p hp=>?_⟩
     rw [abQ,<- List.map_drop]
     have s3:Same H2 (upd H2 p (.lst (((aR hh).drop 1).map V.str))):=(Same.refl H2).upd hp
     refine ⟨D,p,_,_,rfl,dg.of (s3 _ _ e2),dg.of aq,fun S P H3 fS s4 eP eS eT=>?_⟩
     exact q S P H3 (((s1.trans s2).trans s3).free fS) (((s1.trans s2).trans s3).trans s4) eP eS eT
theorem Lb:bG ["ledger"] ["ledger"] (aA pJ):=⟨rfl,rfl,rfl,by decide +kernel,rfl,by decide +kernel,by decide +kernel⟩
theorem Ld {f qx:Addr} {fd tW:FuncData} (F:nG K "rows_of" "rows_of" pJ f fd) (T:Txt mg t8)
   (Gh:aX P w K mg base dM 2 qx tW ["houses"] qm) (Gi:mg "row_names" = some (.ref qx)) (Gj:PySem.W.keepIn K (.ref qx)=true) (Gk:Binds K tW ["houses"] []):aX P w K mg base dM 3 f fd ["ledger"] vV:=by
 refine F.ok Lb (fun vs H Q E h=>?_) (fun cdv A outer s H vs Q E hr h=>?_)
 . obtain ⟨x,hs,ls,rfl,_⟩:=h
   rfl
 . obtain ⟨x,hs,ls,rfl,⟨a,y,z,rfl,ha,hH,hL⟩,gh,q⟩:=h
   refine ⟨_,(aH (aZ (dB bY rfl T.tuple PyProof.Rows.boot_tuple (aj (aU tE rfl T.sorted PyProof.Rows.boot_sorted (aj (aM Gh hr rfl Gi Gj Gk .nil bf (aj (cP jC (pV 0) aD (fun _ _=>rfl)) ak)) ak)) ak)))),?_⟩
   refine gj (bM.of ha) (i:=0) (v:=y) (by rfl) ?_
   refine ⟨y,hs,rfl,hH,gh.hi,gh.all,fun l H1 hl el s1=>?_⟩
   have few:=gh.few
   refine ⟨l,namesOf hs,rfl,dg.of el,by omega,fun l2 ss hl2 hp hs'=>?_⟩
   have s2:=s1.upd (o:=.lst (ss.map V.str)) hl2
   refine ⟨l2,ss.map V.str,rfl,.inl ⟨dg.of aq,fun l3 hl3=>?_⟩⟩
   exact q l3 ss _ (s2.free hl3) aq (s2.upd hl3) hp hs'
theorem yc:bG ["run","drift","moments","offs"] ["run","drift","moments"] (aA mY):=⟨rfl,rfl,rfl,by decide +kernel,rfl,by decide +kernel,by decide +kernel⟩
theorem Lf {f:Addr} {fd:FuncData} (F:nG K "keeps_drift" "keeps_drift" mY f fd) (T:Txt mg t8):aX P w K mg base dM 1 f fd ["run","drift","moments"] vW:=by
 refine F.ok yc (fun vs H Q E h=>?_) (fun cdv A outer s H vs Q E hr h=>?_)
 . obtain ⟨x,rs,d,a,m,rfl,_⟩:=h
   rfl
 . obtain ⟨x,rs,d,a,m,rfl,⟨c,vs,rfl,hc,pr⟩,gr,mo,q⟩:=h
   have mJ:sizeLine=16777216:=sizeLine_eq
   refine ⟨_,(au (qg (i:=3) yc.nd rfl rfl (g8:=aA mY) (own:=["row","reading"]) (cap:=["moments"]) (ix:=[2]) rfl rfl ⟨rfl,by decide +kernel,by decide +kernel,by decide +kernel,rfl,by decide +kernel⟩ (cX (pV 0)) (fun b=>(cT rfl (aG (aB (i:=0) (show (["row","reading","moments"]:List Str).Nodup by decide +kernel) rfl (Or.inl rfl)) (aG (aB (i:=1) (show (["row","reading","moments"]:List Str).Nodup by decide +kernel) rfl (Or.inl rfl)) bR)))) (fun b=>bU) (fun b=>(aY jB (pV 1) (bZ (cV hr) (pV 2) (pV 0) (fun _ _=>rfl))))) (aH (aZ (jH oLe (aY jB (aU (Kh rfl) rfl T.max PyProof.Rows.boot_max (aj (pV 3) ak)) (aU (Kl rfl) rfl T.min PyProof.Rows.boot_min (aj (pV 3) ak))) (pV 1) (bJ _))))),?_⟩
   have lz:=pr.length
   have ln:=gr.few
   refine ⟨c,rfl,⟨_,bM.of hc⟩,fun D hD=>comp_map (xs:=vs) (ys:=(offs rs m).map V.int) hD (bM.of hc) (by omega) (by rw [List.length_map]; unfold offs; rw [List.length_map]; omega) (fun i y H2 hy s2 b R hR=>?_) (fun H2 s2 e2=>?_)⟩
   . obtain ⟨rr,hrr,ra⟩:=aQ pr hy
     obtain ⟨a1,rfl,g1⟩:=ra.ts s2.tups
     refine ⟨a1,_,rfl,bM.of g1,rfl,_,_,rfl,_,_,rfl,rfl,?_⟩
     refine ⟨a,_,rfl,(mo.same (cQ.of s2)).get (List.mem_map_of_mem (List.mem_of_getElem? hrr)),?_⟩
     exact hR H2 _ (by unfold offs; rw [List.getElem?_map,List.getElem?_map,hrr]; rfl) (Same.refl _)
   . have ne:offs rs m≠[]:=by unfold offs; intro z; exact gr.ne (List.map_eq_nil_iff.mp z)
     refine ⟨D,offs rs m,rfl,dg.of e2,ne,fun mx hmx gmx=>?_⟩
     refine ⟨D,offs rs m,rfl,dg.of e2,ne,fun mn hmn gmn=>?_⟩
     show Q (.bl (decide (mx-mn<=d))) H2
     have e:decide (mx-mn<=d)=cF rs d m:=by
       unfold cF
       rw [Bool.eq_iff_iff,decide_eq_true_iff,decide_eq_true_iff]
       refine ⟨fun z u hu v hv=>?_,fun z=>z mx hmx mn hmn⟩
       have:=gmx u hu
       have:=gmn v hv
       omega
     rw [e]
     exact q H2 s2
theorem jl:bG ["letter","moments","sent","taken","least","most","gap"] ["letter","moments"] (aA lQ):=⟨rfl,rfl,rfl,by decide +kernel,rfl,by decide +kernel,by decide +kernel⟩
theorem Gm {f:Addr} {fd:FuncData} (F:nG K "keeps_letter" "keeps_letter" lQ f fd):aX P w K mg base dM 1 f fd ["letter","moments"] sG:=by
 refine F.ok jl (fun vs H Q E h=>?_) (fun cdv A outer s H vs Q E hr h=>?_)
 . obtain ⟨x,l,a,m,rfl,_⟩:=h
   rfl
 . obtain ⟨x,l,a,m,rfl,⟨c,rfl,hc⟩,mo,q⟩:=h
   refine ⟨_,(au (kY (pV 0) (cT rfl (aG (aB (i:=2) jl.nd rfl (Or.inl rfl)) (aG (aB (i:=3) jl.nd rfl (Or.inl rfl)) (aG (aB (i:=4) jl.nd rfl (Or.inl rfl)) (aG (aB (i:=5) jl.nd rfl (Or.inl rfl)) bR)))))) (au (aV (i:=6) jl.nd rfl (Or.inl rfl) (aY jB (bZ (cV hr) (pV 1) (pV 3) (fun _ _=>rfl)) (bZ (cV hr) (pV 1) (pV 2) (fun _ _=>rfl)))) (aH (aZ (Bp (jH oGe (pV 6) (pV 4) (bJ _)) (uN (aeE (MK (WW (pV 5))) (uN (jH oLe (pV 6) (pV 5) (bJ _)))))))))),?_⟩
   refine ⟨c,_,rfl,bM.of hc,rfl,_,_,rfl,_,_,rfl,_,_,rfl,_,_,rfl,rfl,?_⟩
   refine ⟨a,.int (m l.1.2),rfl,mo.get (by simp),?_⟩
   refine ⟨a,.int (m l.1.1),rfl,mo.get (by simp),?_⟩
   have z:=q H (Same.refl H)
   obtain ⟨⟨se,ta⟩,le,mst⟩:=l
   unfold gk at z
   dsimp only at z
   show (if decide (le<=m ta-m se)=true then _ else Q (.bl false) H)
   cases e1:decide (le<=m ta-m se) with
   | false=>rw [e1] at z; exact z
   | true =>
     rw [e1] at z
     cases mst with
     | none=>exact z
     | some y =>
       show Q (.bl (decide (m ta-m se<=y))) H
       simpa using z
theorem jP:bG ["house","moments","name","low","high","drift","runs"] ["house","moments"] (aA jL):=⟨rfl,rfl,rfl,by decide +kernel,rfl,by decide +kernel,by decide +kernel⟩
theorem Lg {f gO zR vY:Addr} {fd iB Dn yd:FuncData} (F:nG K "keeps_house" "keeps_house" jL f fd) (T:Txt mg t8)
   (oO:aX P w K mg base dM 2 gO iB ["house"] oF) (oR:mg "rows_in" = some (.ref gO)) (oU:PySem.W.keepIn K (.ref gO)=true) (oV:Binds K iB ["house"] [])
   (Uk:aX P w K mg base dM 2 zR Dn ["house"] zQ) (Ul:mg "neighbours_in" = some (.ref zR)) (Um:PySem.W.keepIn K (.ref zR)=true) (Uo:Binds K Dn ["house"] [])
   (Qx:aX P w K mg base dM 2 vY yd ["run","drift","moments"] vW) (Qy:mg "keeps_drift" = some (.ref vY)) (Qz:PySem.W.keepIn K (.ref vY)=true) (QB:Binds K yd ["run","drift","moments"] []):aX P w K mg base dM 3 f fd ["house","moments"] vX:=by
 refine F.ok jP (fun vs H Q E h=>?_) (fun cdv A outer s H vs Q E hr h=>?_)
 . obtain ⟨x,hh,a,m,rfl,_⟩:=h
   rfl
 . obtain ⟨x,hh,a,m,rfl,hx0,gd,mo,q⟩:=h
   obtain ⟨c,bb,rfl,hc,c5,vr,rfl,hc5,pr⟩:=id hx0
   have mJ:sizeLine=16777216:=sizeLine_eq
   refine ⟨_,(au (kY (pV 0) (cT rfl (aG (aB (i:=2) jP.nd rfl (Or.inl rfl)) (aG (aB (i:=3) jP.nd rfl (Or.inr rfl)) (aG (aB (i:=4) jP.nd rfl (Or.inr rfl)) (aG (aB (i:=5) jP.nd rfl (Or.inr rfl)) (aG (aB (i:=6) jP.nd rfl (Or.inl rfl)) bR))))))) (au (eV (kW (iY (aU (jA rfl) rfl T.all PyProof.Rows.boot_all (aj (dJ (g8:=aA jL) (own:=["row","reading"]) (cap:=["high","low","moments"]) (ix:=[4,3,1]) rfl rfl ⟨rfl,by decide +kernel,by decide +kernel,by decide +kernel,rfl,by decide +kernel⟩ (fO (aM oO hr rfl oR oU oV .nil bf (aj (pV 0) ak))) (fun b=>(cT rfl (aG (aB (i:=0) (show (["row","reading","high","low","moments"]:List Str).Nodup by decide +kernel) rfl (Or.inl rfl)) (aG (aB (i:=1) (show (["row","reading","high","low","moments"]:List Str).Nodup by decide +kernel) rfl (Or.inl rfl)) bR)))) (fun b=>bU) (fun b=>(M8 oLe oLe (pV 3) (aY jB (pV 1) (bZ (cV hr) (pV 4) (pV 0) (fun _ _=>rfl))) (pV 2)))) ak)))) (aH (aZ iH)) bO) (au (eV (kW (iY (aU (jA rfl) rfl T.all PyProof.Rows.boot_all (aj (dJ (g8:=aA jL) (own:=["row","later"]) (cap:=["moments"]) (ix:=[1]) rfl rfl ⟨rfl,by decide +kernel,by decide +kernel,by decide +kernel,rfl,by decide +kernel⟩ (fO (aM Uk hr rfl Ul Um Uo .nil bf (aj (pV 0) ak))) (fun b=>(cT rfl (aG (aB (i:=0) (show (["row","later","moments"]:List Str).Nodup by decide +kernel) rfl (Or.inl rfl)) (aG (aB (i:=1) (show (["row","later","moments"]:List Str).Nodup by decide +kernel) rfl (Or.inl rfl)) bR)))) (fun b=>bU) (fun b=>(jH oGe (aY jB (bZ (cV hr) (pV 2) (pV 1) (fun _ _=>rfl)) (bZ (cV hr) (pV 2) (pV 0) (fun _ _=>rfl))) aD (bJ _)))) ak)))) (aH (aZ iH)) bO) (aH (aZ (aU (jA rfl) rfl T.all PyProof.Rows.boot_all (aj (dJ (g8:=aA jL) (own:=["run"]) (cap:=["drift","moments"]) (ix:=[5,1]) rfl rfl ⟨rfl,by decide +kernel,by decide +kernel,by decide +kernel,rfl,by decide +kernel⟩ (cX (pV 6)) (fun b=>(aB (i:=0) (show (["run","drift","moments"]:List Str).Nodup by decide +kernel) rfl (Or.inl rfl))) (fun b=>bU) (fun b=>(aM Qx hr rfl Qy Qz QB .nil bf (aj (pV 0) (aj (pV 1) (aj (pV 2) ak)))))) ak))))))),?_⟩
   refine ⟨c,_,rfl,bM.of hc,rfl,_,_,rfl,_,_,rfl,_,_,rfl,_,_,rfl,_,_,rfl,rfl,?_⟩
   have lnn:=xZ gd
   have lrn:(aR hh).length=(bL hh).length:=by show ((bL hh).map Prod.fst).length=_; rw [List.length_map]
   refine ⟨.ref c,hh,rfl,hx0,gd,fun l zs H1 hl el s1 pz=>?_⟩
   have lz:=pz.length
   refine ⟨l,rfl,⟨_,dg.of el⟩,fun D hD=>lY (xs:=zs) (ys:=((bL hh).map (jd hh m)).map V.bl) hD el (by omega) (by rw [List.length_map,List.length_map]; omega) (fun i y H2 hy s2 b R hR=>?_) (fun H2 s2 e2=>?_)⟩
   . obtain ⟨rr,hrr,ra⟩:=aQ pz hy
     obtain ⟨a1,rfl,g1⟩:=ra.ts s2.tups
     refine ⟨a1,_,rfl,bM.of g1,rfl,_,_,rfl,_,_,rfl,rfl,?_⟩
     refine ⟨a,.int (m rr.1),rfl,(mo.same (cQ.of (s1.trans s2))).get (List.mem_map_of_mem (List.mem_of_getElem? hrr)),?_⟩
     have w:=hR H2 (.bl (jd hh m rr)) (by rw [List.getElem?_map,List.getElem?_map,hrr]; rfl) (Same.refl _)
     refine ⟨decide (hh.low<=rr.2-m rr.1),rfl,?_⟩
     unfold jd at w
     cases e1:decide (hh.low<=rr.2-m rr.1) with
     | false=>rw [e1] at w; exact w
     | true=>rw [e1] at w; simp only [Bool.true_and] at w; exact w
   . refine ⟨D,(bL hh).map (jd hh m),rfl,dg.of e2,?_⟩
     have S2:Same H H2:=s1.trans s2
     have e3:((bL hh).map (jd hh m)).all id=(bL hh).all (jd hh m):=by rw [List.all_map]; rfl
     rw [e3]
     cases k1:(bL hh).all (jd hh m) with
     | false =>
       have z:=q H2 S2
       unfold fM at z
       rw [k1] at z
       exact z
     | true =>
       refine ⟨.ref c,hh,rfl,hx0.ts S2.tups,gd,fun S P H3 fS s3 eP eS eT=>?_⟩
       have lP:P.length<=625:=by
         have z:=congrArg List.length eP
         rw [List.length_map,List.length_zip,List.length_map,List.length_map] at z
         omega
       refine ⟨S,rfl,⟨_,dg.of eS⟩,fun D2 hD2=>lY (xs:=P.map fun q=>.ref q.1) (ys:=((((aR hh).zip ((aR hh).drop 1)).map (gU m)).map V.bl)) hD2 eS (by rw [List.length_map]; omega) (by
         have z:=congrArg List.length eP
         rw [List.length_map,List.length_zip,List.length_map,List.length_map] at z
         rw [List.length_map,List.length_map,List.length_zip,List.length_map]; omega) (fun i y H4 hy s4 b R hR=>?_) (fun H4 s4 e4=>?_)⟩
       . rw [List.getElem?_map] at hy
         obtain ⟨pq,hpq,rfl⟩:=Option.map_eq_some_iff.mp hy
         have tq:=s4 _ _ (eT pq (List.mem_of_getElem? hpq))
         have w1:(P.map (·.2))[i]?=some pq.2:=by rw [List.getElem?_map,hpq]; rfl
         rw [eP,List.getElem?_zip_eq_some,List.getElem?_map,List.getElem?_map] at w1
         obtain ⟨w2,w3⟩:=w1
         obtain ⟨n1,en1,ez1⟩:=Option.map_eq_some_iff.mp w2
         obtain ⟨n2,en2,ez2⟩:=Option.map_eq_some_iff.mp w3
         rw [<- ez1,<- ez2] at tq
         have in1:n1∈aR hh:=List.mem_of_getElem? en1
         have in2:n2∈aR hh:=List.mem_of_mem_drop (List.mem_of_getElem? en2)
         have mo4:=mo.same (cQ.of ((S2.trans s3).trans s4))
         refine ⟨pq.1,_,rfl,bM.of tq,rfl,_,_,rfl,_,_,rfl,rfl,?_⟩
         refine ⟨a,.int (m n2),rfl,mo4.get in2,?_⟩
         refine ⟨a,.int (m n1),rfl,mo4.get in1,?_⟩
         refine hR H4 _ ?_ (Same.refl _)
         have w4:((aR hh).zip ((aR hh).drop 1))[i]?=some (n1,n2):=by rw [List.getElem?_zip_eq_some]; exact ⟨en1,en2⟩
         rw [List.getElem?_map,List.getElem?_map,w4]
         rfl
       . refine ⟨D2,_,rfl,dg.of e4,?_⟩
         have S4:Same H H4:=(S2.trans s3).trans s4
         have e5:(((aR hh).zip ((aR hh).drop 1)).map (gU m)).all id=((aR hh).zip ((aR hh).drop 1)).all (gU m):=by rw [List.all_map]; rfl
         rw [e5]
         cases k2:((aR hh).zip ((aR hh).drop 1)).all (gU m) with
         | false =>
           have z:=q H4 S4
           unfold fM at z
           rw [k1,k2] at z
           exact z
         | true =>
           have lr:=pr.length
           have few:=gd.few
           refine ⟨c5,rfl,⟨_,bM.of (S4 _ _ hc5)⟩,fun D3 hD3=>comp_map (xs:=vr) (ys:=(hh.runs.map fun r=>cF r hh.aK m).map V.bl) hD3 (bM.of (S4 _ _ hc5)) (by omega) (by rw [List.length_map,List.length_map]; omega) (fun i y H5 hy s5 b R hR=>?_) (fun H5 s5 e6=>?_)⟩
           . obtain ⟨rs,hrs,rat⟩:=aQ pr hy
             refine ⟨y,rs,hh.aK,a,m,rfl,rat.ts (S4.trans s5).tups,gd.runs rs (List.mem_of_getElem? hrs),?_,fun H6 s6=>?_⟩
             . refine (mo.same (cQ.of (S4.trans s5))).part fun n hn=>?_
               obtain ⟨r,hr1,rfl⟩:=List.mem_map.mp hn
               exact List.mem_map_of_mem (List.mem_flatten.mpr ⟨rs,List.mem_of_getElem? hrs,hr1⟩)
             . exact hR H6 _ (by rw [List.getElem?_map,List.getElem?_map,hrs]; rfl) s6
           . refine ⟨D3,_,rfl,dg.of e6,?_⟩
             have z:=q H5 (S4.trans s5)
             unfold fM at z
             rw [k1,k2] at z
             have e7:(hh.runs.map fun r=>cF r hh.aK m).all id=hh.runs.all fun r=>cF r hh.aK m:=by rw [List.all_map]; rfl
             rw [e7]
             exact z
end
end mW
namespace mW
open PySem L2 gY
def tX (ss:List Str):PyData:=.tuple (ss.map .str)
theorem Jf {K:PySem.W.Frag} {H:Hp} {a:Addr} {ss:List Str} (ha:H a=some (.tup (ss.map V.str))):Dp K H (.ref a) (tX ss):=by
 refine .tup (bM.of ha) ?_
 clear ha
 induction ss with
 | nil=>exact .nil
 | cons s ss ih=>exact .cons (.str s) ih
theorem tY {ss:List Str} (g:∀ s∈ss,Good s):SeqAt.shaped (tX ss)=true:=by
 have h1:PyData.canLayAll0 (ss.map .str)=true:=by
   induction ss with
   | nil=>rfl
   | cons s ss ih =>
     rw [List.map_cons]
     unfold PyData.canLayAll0
     rw [ih fun q hq=>g q (List.mem_cons_of_mem _ hq),Bool.and_true]
     unfold PyData.canLay0
     exact (g s List.mem_cons_self).ok
 have h2:PyData.depthAll (ss.map .str)=0:=by
   clear g h1
   induction ss with
   | nil=>rfl
   | cons s ss ih =>
     rw [List.map_cons]
     unfold PyData.depthAll
     rw [ih]
     simp [PyData.depth]
 unfold SeqAt.shaped tX
 rw [Bool.and_eq_true]
 refine ⟨?_,?_⟩
 . unfold PyData.canLay0; exact h1
 . unfold PyData.depth; rw [h2]; rfl
theorem qy:∀ (l:List Str) (p:Str),PyProof.Rows.risingS p l=true->l.Pairwise (fun a b=>slt b a=false)/\∀ x∈l,slt x p=false
 | [],p,_=>⟨List.Pairwise.nil,fun x hx=>by simp at hx⟩
 | y :: l,p,h=>by
   have h':(!PySem.Spec.ltCps y.cps.toList p.cps.toList && PyProof.Rows.risingS y l)=true:=h
   obtain ⟨h1,h2⟩:=Bool.and_eq_true_iff.mp h'
   obtain ⟨p1,p2⟩:=qy l y h2
   have h3:slt y p=false:=by
     rw [PyProof.Rows.ltCps_eq] at h1
     simpa [slt] using h1
   have le:∀ x,slt x y=false->slt x p=false:=fun x hx=>by
     cases e:slt x p with
     | false=>rfl
     | true =>
       rcases Classical.em (p=y) with z | z
       . rw [z,hx] at e; cases e
       . rcases iu.tot p y z with w | w
         . have:=iu.trans _ _ _ e w
           rw [hx] at this; cases this
         . rw [h3] at w; cases w
   refine ⟨List.pairwise_cons.mpr ⟨p2,p1⟩,fun x hx=>?_⟩
   rcases List.mem_cons.mp hx with z | z
   . rw [z]; exact h3
   . exact le x (p2 x z)
theorem yg:∀ (l:List Str),PyProof.Rows.sortedS l=true->l.Pairwise (fun a b=>slt b a=false)
 | [],_=>List.Pairwise.nil
 | x :: l,h=>List.pairwise_cons.mpr ⟨(qy l x h).2,(qy l x h).1⟩
theorem Lh {a b l:List Str} (pa:a.Perm l) (pb:b.Perm l) (sa:PyProof.Rows.sortedS a=true) (sb:PyProof.Rows.sortedS b=true):a=b:=by
 refine List.Perm.eq_of_pairwise (le:=fun a b=>slt b a=false) (fun x y _ _ h1 h2=>?_) (yg a sa) (yg b sb) (pa.trans pb.symm)
 rcases Classical.em (x=y) with z | z
 . exact z
 . rcases iu.tot x y z with w | w
   . rw [h2] at w; cases w
   . rw [h1] at w; cases w
def d8 (ss:List Str) (m:Str->Int):List Row:=ss.map fun n=>(n,m n)
def Y5:Da->Str
 | .tup (.str z :: _)=>z
 | _=>""
def tZ (ss:List Str):Da->Bool
 | .tup ds=>ds.all eN && decide (ds.map Y5=ss)
 | _=>false
theorem Li {d:Da} (h:eN d=true):∃ r:Row,d=gK r/\Good r.1:=by
 unfold eN at h
 split at h
 . rename_i a b
   obtain ⟨h1,h2⟩:=Bool.and_eq_true_iff.mp h
   cases a with
   | str z =>
     cases b with
     | int i=>exact ⟨(z,i),rfl,Tr h1⟩
     | _=>exact absurd h2 (by simp [Ox])
   | _=>exact absurd h1 (by simp [Ca])
 . cases h
theorem vZ:∀ {ds:List Da},ds.all eN=true->∃ rs:List Row,ds=rs.map gK/\∀ r∈rs,Good r.1
 | [],_=>⟨[],rfl,fun r hr=>by simp at hr⟩
 | d :: ds,h=>by
   rw [List.all_cons,Bool.and_eq_true] at h
   obtain ⟨r,rfl,g⟩:=Li h.1
   obtain ⟨rs,rfl,gs⟩:=vZ h.2
   exact ⟨r :: rs,rfl,fun x hx=>(List.mem_cons.mp hx).elim (fun z=>z ▸ g) (gs x)⟩
theorem zT (rs:List Row):(rs.map gK).map Y5=rs.map Prod.fst:=by rw [List.map_map]; rfl
theorem Dq:∀ (a b:List Str),PyData.eqvAll (a.map .str) (b.map .str)=decide (a=b)
 | [],[]=>by simp [PyData.eqvAll]
 | [],_ :: _=>by simp [PyData.eqvAll]
 | _ :: _,[]=>by simp [PyData.eqvAll]
 | x :: a,y :: b=>by
   have z:=Dq a b
   simp only [PyData.eqvAll,PyData.eqv,z,List.map_cons]
   rw [Bool.eq_iff_iff]
   simp
theorem QC (a b:List Str):PyData.eqv (tX a) (tX b)=decide (a=b):=by
 unfold tX
 simp [PyData.eqv,Dq]
theorem Lj {ss:List Str} {m:Str->Int} (g:∀ s∈ss,Good s):tZ ss (.tup ((d8 ss m).map gK))=true:=by
 have h1:((d8 ss m).map gK).all eN=true:=by
   rw [List.all_eq_true]
   intro d hd
   obtain ⟨r,hr,rfl⟩:=List.mem_map.mp hd
   obtain ⟨n,hn,rfl⟩:=List.mem_map.mp hr
   exact Pa (g n hn)
 show (_ && decide (((d8 ss m).map gK).map Y5=ss))=true
 rw [h1,zT,Bool.true_and]
 unfold d8
 rw [List.map_map]
 exact decide_eq_true (by rw [show (Prod.fst∘fun n=>(n,m n))=(id:Str->Str) from rfl,List.map_id])
theorem gH.told {H:Hp} {t:V} {ss:List Str} {m:Str->Int} (h:gH H t (d8 ss m)) (g:∀ s∈ss,Good s) (few:ss.length<=24):bA H t (.tup ((d8 ss m).map gK)):=by
 obtain ⟨c,vs,rfl,hc,pr⟩:=h
 have lv:vs.length=ss.length:=by have z:=pr.length; unfold d8 at z; rw [List.length_map] at z; exact z
 exact .tup hc (by omega) (lN pr fun v r hr' ra=>ra.da (by
   obtain ⟨n,hn,rfl⟩:=List.mem_map.mp hr'
   exact g n hn))
def Rows (hs:List aJ) (ss:List Str):Prop:=ss.Perm (namesOf hs)/\PyProof.Rows.sortedS ss=true
def Gn:Sp:=fun vs H Q _=>∃ (x t:V) (hs:List aJ) (ls:List Letter) (d:Da),vs=[x,t]/\cU H x hs ls/\bw hs/\bA H t d/\∀ b H',Same H H'->(∀ ss,Rows hs ss->b=tZ ss d)->Q (.bl b) H'
def pK:Sp:=fun vs H Q _=>∃ (x t:V) (hs:List aJ) (ls:List Letter),vs=[x,t]/\cU H x hs ls/\bw hs/\bx hs ls/\((∃ (ss:List Str) (m:Str->Int),gH H t (d8 ss m)/\ss.Perm (namesOf hs)/\PyProof.Rows.sortedS ss=true/\∀ H',Same H H'->Q (.bl (cR hs ls m)) H')∨∃ d,bA H t d/\(∃ ss,Rows hs ss/\tZ ss d=false)/\∀ H',Same H H'->Q (.bl false) H')
theorem oW {hs:List aJ} (g:bw hs) {n:Str} (h:n∈namesOf hs):Good n:=by
 obtain ⟨k,hk,hn⟩:=List.mem_flatMap.mp h
 obtain ⟨r,hr,rfl⟩:=List.mem_map.mp hn
 obtain ⟨q,hq,hr2⟩:=List.mem_flatten.mp hr
 exact ((g.all k hk).runs q hq).names r hr2
def Jg (ss:List Str) (m:Str->Int):List (Key × V):=ss.map fun n=>(.inr n,.int (m n))
theorem v7 (ss:List Str) (m:Str->Int):(Jg ss m).map (·.1)=ss.map Sum.inr:=by unfold Jg; rw [List.map_map]; rfl
theorem zU {m:Str->Int}:∀ {ss:List Str} {n:Str},n∈ss->dW (Jg ss m) (.inr n)=some (.int (m n))
 | s :: ss,n,h=>by
   by_cases e:s=n
   . subst e; exact fU rfl
   . rw [show Jg (s :: ss) m=(.inr s,.int (m s)) :: Jg ss m from rfl,fV (fun z=>e (Sum.inr.inj z))]
     exact zU ((List.mem_cons.mp h).resolve_left fun z=>e z.symm)
section
variable {P:Program} {w:World} {K:PySem.W.Frag} {mg:Str->Option Value} {base:Heap} {t8:Tok}
theorem Uq:bG ["ledger","thing"] ["ledger","thing"] (aA tQ):=⟨rfl,rfl,rfl,by decide +kernel,rfl,by decide +kernel,by decide +kernel⟩
theorem Ur {f zV wg:Addr} {fd Dr yh:FuncData} (F:nG K "names_each_row" "names_each_row" tQ f fd) (T:Txt mg t8)
   (Us:aX P w K mg base dM 3 zV Dr ["thing"] (spD eN)) (Ut:mg "is_named_number" = some (.ref zV)) (Uu:PySem.W.keepIn K (.ref zV)=true) (Uv:Binds K Dr ["thing"] [])
   (QD:aX P w K mg base dM 3 wg yh ["ledger"] vV) (QF:mg "rows_of" = some (.ref wg)) (QG:PySem.W.keepIn K (.ref wg)=true) (QH:Binds K yh ["ledger"] []):aX P w K mg base dM 4 f fd ["ledger","thing"] Gn:=by
 refine F.ok Uq (fun vs H Q E h=>?_) (fun cdv A outer s H vs Q E hr h=>?_)
 . obtain ⟨x,t,hs,ls,d,rfl,_⟩:=h
   rfl
 . obtain ⟨x,t,hs,ls,d,rfl,hx,gh,hd,q⟩:=h
   have mJ:sizeLine=16777216:=sizeLine_eq
   obtain ⟨_,⟨T',ty,kt⟩,_⟩:=hd.kind (K:=K)
   refine ⟨_,(au (eV (Nv (kW (iY (aU oh rfl T.isi PyProof.Rows.boot_isinstance (aj (pV 1) (aj (qH (v:=.ty "tuple") rfl T.tuple PyProof.Rows.boot_tuple rfl) ak))))) (pw_or1 (kW (iY (aU (jA rfl) rfl T.all PyProof.Rows.boot_all (aj (dJ (g8:=aA tQ) (own:=["part"]) (cap:=[]) (ix:=[]) rfl rfl ⟨rfl,by decide +kernel,by decide +kernel,by decide +kernel,rfl,by decide +kernel⟩ (cX (pV 1)) (fun b=>(aB (i:=0) (show (["part"]:List Str).Nodup by decide +kernel) rfl (Or.inl rfl))) (fun b=>bU) (fun b=>(aM Us hr rfl Ut Uu Uv .nil bf (aj (pV 0) ak)))) ak)))))) (aH (aZ iH)) bO) (aH (aZ (jH (XF hr.units) (dB bY rfl T.tuple PyProof.Rows.boot_tuple (aj (dJ (g8:=aA tQ) (own:=["name","moment"]) (cap:=[]) (ix:=[]) rfl rfl ⟨rfl,by decide +kernel,by decide +kernel,by decide +kernel,rfl,by decide +kernel⟩ (cX (pV 1)) (fun b=>(cT rfl (aG (aB (i:=0) (show (["name","moment"]:List Str).Nodup by decide +kernel) rfl (Or.inl rfl)) (aG (aB (i:=1) (show (["name","moment"]:List Str).Nodup by decide +kernel) rfl (Or.inl rfl)) bR)))) (fun b=>bU) (fun b=>(pV 0))) ak)) (aM QD hr rfl QF QG QH .nil bf (aj (pV 0) ak)) (bJ _))))),?_⟩
   refine ⟨_,_,_,_,rfl,ty,kt,?_⟩
   have qf:(∀ ss,tZ ss d=false)->Q (.bl false) H:=fun z=>q false H (Same.refl H) fun ss _=>(z ss).symm
   cases d with
   | non=>exact qf fun _=>rfl
   | bl b=>exact qf fun _=>rfl
   | int i=>exact qf fun _=>rfl
   | str z=>exact qf fun _=>rfl
   | oth=>exact qf fun _=>rfl
   | tup ds =>
     clear qf
     obtain ⟨c,vs,rfl,hc,lc,pr⟩:=hd.iw
     have lv:=pr.len
     refine ⟨c,rfl,⟨_,bM.of hc⟩,fun D hD=>comp_map (xs:=vs) (ys:=(ds.map eN).map V.bl) hD (bM.of hc) (by omega) (by rw [List.length_map,List.length_map]; omega) (fun i y H2 hy s2 b R hR=>?_) (fun H2 s2 e2=>?_)⟩
     . obtain ⟨dd,hdd,da⟩:=pr.get hy
       refine ⟨y,dd,rfl,da.same s2,fun H3 s3=>?_⟩
       exact hR H3 _ (by rw [List.getElem?_map,List.getElem?_map,hdd]; rfl) s3
     . refine ⟨D,ds.map eN,rfl,dg.of e2,?_⟩
       have e4:(ds.map eN).all id=ds.all eN:=by rw [List.all_map]; rfl
       rw [e4]
       cases k1:ds.all eN with
       | false=>exact q false H2 s2 fun ss _=>by show false=(ds.all eN && _); rw [k1]; rfl
       | true =>
         obtain ⟨rs,rfl,gr⟩:=vZ k1
         rw [List.length_map] at lv
         refine ⟨c,rfl,⟨_,bM.of (s2 _ _ hc)⟩,fun D2 hD2=>comp_map (xs:=vs) (ys:=(rs.map Prod.fst).map V.str) hD2 (bM.of (s2 _ _ hc)) (by omega) (by rw [List.length_map,List.length_map]; omega) (fun i y H3 hy s3 b R hR=>?_) (fun H3 s3 e3=>?_)⟩
         . obtain ⟨dd,hdd,da⟩:=pr.get hy
           rw [List.getElem?_map] at hdd
           obtain ⟨rr,hrr,rfl⟩:=Option.map_eq_some_iff.mp hdd
           obtain ⟨a1,ws,rfl,g1,_,pw⟩:=da.iw
           obtain ⟨v1,w1,rfl,d1,p1⟩:=pw.inv
           obtain ⟨v2,w2,rfl,d2,p2⟩:=p1.inv
           cases p2
           cases d1
           cases d2
           refine ⟨a1,_,rfl,bM.of ((s2.trans s3) _ _ g1),rfl,_,_,rfl,_,_,rfl,rfl,?_⟩
           exact hR H3 _ (by rw [List.getElem?_map,List.getElem?_map,hrr]; rfl) (Same.refl _)
         . refine ⟨D2,(rs.map Prod.fst).map V.str,rfl,.inl ⟨dg.of e3,fun l3 hl3=>?_⟩⟩
           have s4:Same H (upd H3 l3 (.tup ((rs.map Prod.fst).map V.str))):=((s2.trans s3)).upd hl3
           refine ⟨x,hs,ls,rfl,hx.ts s4.tups,gh,fun p ss' H5 fp ep s5 pm' so'=>?_⟩
           have gss:∀ s∈ss',Good s:=fun s hs'=>oW gh (pm'.mem_iff.mp hs')
           refine ⟨tX (rs.map Prod.fst),tX ss',Jf (s5 _ _ aq),Jf ep,tY (fun s hs'=>by obtain ⟨r,hr,rfl⟩:=List.mem_map.mp hs'; exact gr r hr),tY gss,?_⟩
           rw [QC]
           refine q _ H5 (s4.trans s5) fun ss hss=>?_
           rw [Lh hss.1 pm' hss.2 so']
           show _=(((rs.map gK).all eN) && decide ((rs.map gK).map Y5=ss'))
           rw [k1,zT,Bool.true_and]
theorem m6:bG ["ledger","thing","houses","letters","moments"] ["ledger","thing"] (aA iV):=⟨rfl,rfl,rfl,by decide +kernel,rfl,by decide +kernel,by decide +kernel⟩
theorem Gp {f Gq wj sI:Addr} {fd Jh yj wk:FuncData} (F:nG K "is_placing" "is_placing" iV f fd) (T:Txt mg t8)
   (Y6:aX P w K mg base dM 4 Gq Jh ["ledger","thing"] Gn) (Y7:mg "names_each_row" = some (.ref Gq)) (Y8:PySem.W.keepIn K (.ref Gq)=true) (Y9:Binds K Jh ["ledger","thing"] [])
   (QJ:aX P w K mg base dM 4 wj yj ["house","moments"] vX) (QK:mg "keeps_house" = some (.ref wj)) (QL:PySem.W.keepIn K (.ref wj)=true) (QM:Binds K yj ["house","moments"] [])
   (Lk:aX P w K mg base dM 4 sI wk ["letter","moments"] sG) (Ln:mg "keeps_letter" = some (.ref sI)) (Lp:PySem.W.keepIn K (.ref sI)=true) (Lq:Binds K wk ["letter","moments"] []):aX P w K mg base dM 5 f fd ["ledger","thing"] pK:=by
 refine F.ok m6 (fun vs H Q E h=>?_) (fun cdv A outer s H vs Q E hr h=>?_)
 . obtain ⟨x,t,hs,ls,rfl,_⟩:=h
   rfl
 . obtain ⟨x,t,hs,ls,rfl,hx,gh,gl,hT⟩:=h
   have mJ:sizeLine=16777216:=sizeLine_eq
   have few:=gh.few
   refine ⟨_,(au (eV (kW (iY (aM Y6 hr rfl Y7 Y8 Y9 .nil bf (aj (pV 0) (aj (pV 1) ak))))) (aH (aZ iH)) bO) (au (kY (pV 0) (cT rfl (aG (aB (i:=2) m6.nd rfl (Or.inl rfl)) (aG (aB (i:=3) m6.nd rfl (Or.inl rfl)) bR)))) (au (aV (i:=4) m6.nd rfl (Or.inr rfl) (Ks (g8:=aA iV) (own:=["row","moment"]) (cap:=[]) (ix:=[]) rfl rfl ⟨rfl,by decide +kernel,by decide +kernel,by decide +kernel,rfl,by decide +kernel⟩ (cX (pV 1)) (fun b=>(cT rfl (aG (aB (i:=0) (show (["row","moment"]:List Str).Nodup by decide +kernel) rfl (Or.inl rfl)) (aG (aB (i:=1) (show (["row","moment"]:List Str).Nodup by decide +kernel) rfl (Or.inl rfl)) bR)))) (fun b=>bU) (fun b=>(pV 0)) (fun b=>(pV 1)))) (au (eV (kW (iY (aU (jA rfl) rfl T.all PyProof.Rows.boot_all (aj (dJ (g8:=aA iV) (own:=["house"]) (cap:=["moments"]) (ix:=[4]) rfl rfl ⟨rfl,by decide +kernel,by decide +kernel,by decide +kernel,rfl,by decide +kernel⟩ (cX (pV 2)) (fun b=>(aB (i:=0) (show (["house","moments"]:List Str).Nodup by decide +kernel) rfl (Or.inl rfl))) (fun b=>bU) (fun b=>(aM QJ hr rfl QK QL QM .nil bf (aj (pV 0) (aj (pV 1) ak))))) ak)))) (aH (aZ iH)) bO) (aH (aZ (aU (jA rfl) rfl T.all PyProof.Rows.boot_all (aj (dJ (g8:=aA iV) (own:=["letter"]) (cap:=["moments"]) (ix:=[4]) rfl rfl ⟨rfl,by decide +kernel,by decide +kernel,by decide +kernel,rfl,by decide +kernel⟩ (cX (pV 3)) (fun b=>(aB (i:=0) (show (["letter","moments"]:List Str).Nodup by decide +kernel) rfl (Or.inl rfl))) (fun b=>bU) (fun b=>(aM Lk hr rfl Ln Lp Lq .nil bf (aj (pV 0) (aj (pV 1) ak))))) ak)))))))),?_⟩
   rcases hT with ⟨ss,m,ht,pm,so,q⟩ | ⟨d,hd,⟨ss,hss,ef⟩,q⟩
   rotate_left
   . refine ⟨x,t,hs,ls,d,rfl,hx,gh,hd,fun b H1 s1 hb=>?_⟩
     rw [hb ss hss,ef]
     exact q H1 s1
   have lss:ss.length<=24:=by rw [pm.length_eq]; exact few
   have nds:ss.Nodup:=pm.nodup_iff.mpr gh.rows
   have gss:∀ s∈ss,Good s:=fun s hs'=>oW gh (pm.mem_iff.mp hs')
   refine ⟨x,t,hs,ls,_,rfl,hx,gh,gH.told ht gss lss,fun b H1 s1 hb=>?_⟩
   rw [hb ss ⟨pm,so⟩,Lj gss]
   obtain ⟨ca,y,z,rfl,hca,hH,hL⟩:=hx
   obtain ⟨cy,vy,rfl,hcy,py⟩:=hH
   obtain ⟨cz,vz,rfl,hcz,pz⟩:=hL
   obtain ⟨c,vs,rfl,hc,pr⟩:=ht
   have lv:vs.length=ss.length:=by have z:=pr.length; unfold d8 at z; rw [List.length_map] at z; exact z
   refine ⟨ca,_,rfl,bM.of (s1 _ _ hca),rfl,_,_,rfl,_,_,rfl,rfl,?_⟩
   refine ⟨c,rfl,⟨_,bM.of (s1 _ _ hc)⟩,fun D hD=>⟨WS vs.length (fun i σ H'=>∃ o1 o2,σ=[o1,o2]/\H' D=some (.dK (Jg (ss.take i) m))/\Same H1 H'),ws0 ⟨none,none,rfl,by rw [aq]; rfl,(Same.refl H1).upd hD⟩,fun b=>yW (xs:=vs) _ (fun i σ H' _ hz1=>by obtain ⟨_,_,_,_,s2⟩:=hz1; exact bM.of (s2 _ _ (s1 _ _ hc))) (fun σ H2 hz2=>?_) (fun i x σ H2 hx hi hz3=>?_)⟩⟩
   . obtain ⟨_,_,_,eD,s2⟩:=hz2
     rw [lv,List.take_length] at eD
     have S2:=s1.trans s2
     have mo:jX H2 D m ss:=⟨_,.inl eD,fun n hn=>zU hn⟩
     have ly:=py.length
     have lz:=pz.length
     have h6:=gh.hi
     have Wj:=gl.few
     refine ⟨cy,rfl,⟨_,bM.of (S2 _ _ hcy)⟩,fun D2 hD2=>comp_map (xs:=vy) (ys:=(hs.map fun h=>fM h m).map V.bl) hD2 (bM.of (S2 _ _ hcy)) (by omega) (by rw [List.length_map,List.length_map]; omega) (fun i y H3 hy s3 b R hR=>?_) (fun H3 s3 e3=>?_)⟩
     . obtain ⟨hh,hhi,ha⟩:=aQ py hy
       have hmem:=List.mem_of_getElem? hhi
       refine ⟨y,hh,D,m,rfl,ha.ts (S2.trans s3).tups,gh.all hh hmem,(mo.same (cQ.of s3)).part fun n hn=>pm.mem_iff.mpr (List.mem_flatMap.mpr ⟨hh,hmem,hn⟩),fun H4 s4=>?_⟩
       exact hR H4 _ (by rw [List.getElem?_map,List.getElem?_map,hhi]; rfl) s4
     . refine ⟨D2,_,rfl,dg.of e3,?_⟩
       have e4:(hs.map fun h=>fM h m).all id=hs.all fun h=>fM h m:=by rw [List.all_map]; rfl
       rw [e4]
       cases k1:hs.all fun h=>fM h m with
       | false =>
         have z:=q H3 (S2.trans s3)
         unfold cR at z
         rw [k1] at z
         exact z
       | true =>
         have S3:=S2.trans s3
         refine ⟨cz,rfl,⟨_,bM.of (S3 _ _ hcz)⟩,fun D3 hD3=>comp_map (xs:=vz) (ys:=(ls.map fun l=>gk l m).map V.bl) hD3 (bM.of (S3 _ _ hcz)) (by omega) (by rw [List.length_map,List.length_map]; omega) (fun i y H4 hy s4 b R hR=>?_) (fun H4 s4 e5=>?_)⟩
         . obtain ⟨l,hli,ha⟩:=aQ pz hy
           have hmem:=List.mem_of_getElem? hli
           obtain ⟨h1,m1,h2,m2,n1,n2,_⟩:=(gl.all l hmem).Fx
           refine ⟨y,l,D,m,rfl,ha.ts (S3.trans s4).tups,(mo.same (cQ.of (s3.trans s4))).part fun n hn=>pm.mem_iff.mpr ?_,fun H5 s5=>?_⟩
           . simp only [List.mem_cons,List.not_mem_nil,or_false] at hn
             rcases hn with rfl | rfl
             . exact List.mem_flatMap.mpr ⟨h1,m1,n1⟩
             . exact List.mem_flatMap.mpr ⟨h2,m2,n2⟩
           . exact hR H5 _ (by rw [List.getElem?_map,List.getElem?_map,hli]; rfl) s5
         . refine ⟨D3,_,rfl,dg.of e5,?_⟩
           have z:=q H4 (S3.trans s4)
           unfold cR at z
           rw [k1] at z
           have e6:(ls.map fun l=>gk l m).all id=ls.all fun l=>gk l m:=by rw [List.all_map]; rfl
           rw [e6]
           exact z
   . obtain ⟨o1,o2,rfl,eD,s2⟩:=hz3
     obtain ⟨rr,hrr,ra⟩:=aQ pr hx
     obtain ⟨a1,rfl,g1⟩:=ra.ts (s1.trans s2).tups
     unfold d8 at hrr
     rw [List.getElem?_map] at hrr
     obtain ⟨n,hn,rfl⟩:=Option.map_eq_some_iff.mp hrr
     refine ⟨a1,_,rfl,bM.of g1,rfl,_,_,rfl,_,_,rfl,rfl,?_⟩
     have nn:n ∉ ss.take i:=pG nds hn
     refine ⟨_,.inr n,eD,rfl,by unfold Jg; rw [List.length_map,List.length_take]; omega,nxs hi ⟨_,_,rfl,?_,fun b o e=>by rw [aL (aN e hD)]; exact s2 _ _ e⟩⟩
     rw [aq,gY.qR (by rw [v7]; intro w; obtain ⟨n',hn',e⟩:=List.mem_map.mp w; exact nn (Sum.inr.inj e ▸ hn')),List.take_add_one,hn]
     unfold Jg
     rw [List.map_append]
     rfl
end
end mW
namespace mW
open PySem L2 gY
theorem QS {xs:List V} {k:Nat} (h:k<=xs.length):nQ xs none (some (k:Int))=xs.take k:=by
 unfold nQ
 rw [HT.jz,HT.iJ,Nat.min_eq_left h]
 simp
def InstAt (H:Hp) (a:Addr) (m:Str->Int) (ns:List Str):Prop:=∃ kvs:List (Key × V),Rd H a (.dK kvs)/\kvs.map (·.1)=ns.map Sum.inr/\∀ n∈ns,dW kvs (.inr n)=some (.int (m n))
theorem InstAt.mom {H:Hp} {a:Addr} {m:Str->Int} {ns:List Str} (h:InstAt H a m ns):jX H a m ns:=let ⟨k,r,_,v⟩:=h; ⟨k,r,v⟩
theorem InstAt.same {H H':Hp} {a:Addr} {m:Str->Int} {ns:List Str} (h:InstAt H a m ns) (s:cQ H H'):InstAt H' a m ns:=let ⟨k,r,e,v⟩:=h; ⟨k,s.rd r,e,v⟩
def zW:Sp:=fun vs H Q _=>∃ (a:Addr) (m:Str->Int) (ns:List Str),vs=[.ref a]/\InstAt H a m ns/\ns.length<=24/\∀ (p:Addr) (ss:List Str) (H':Hp),gH H' (.ref p) (d8 ss m)->ss.Perm ns->PyProof.Rows.sortedS ss=true->Same H H'->Q (.ref p) H'
def zX:Sp:=fun vs H Q _=>∃ (x:V) (a:Addr) (hs:List aJ) (ls:List Letter) (m:Str->Int),vs=[x,.ref a]/\cU H x hs ls/\bw hs/\bx hs ls/\jX H a m (namesOf hs)/\∀ H',Same H H'->Q (.bl (cR hs ls m)) H'
theorem abU {D:Ends} {σ:St} {H:Hp} (h:D.nx σ H):Hr D σ H:=h
def kI (ns:List Str):V:=match ns.getLast? with | none=>.non | some n=>.str n
theorem wu (ns:List Str) (n:Str):kI (ns++[n])=.str n:=by unfold kI; rw [List.getLast?_concat]
def Wk (h:aJ) (m:Str->Int) (rows:List Row):Prop:=(∀ r∈rows,jd h m r=true)/\je m (rows.map Prod.fst)=true
def PK1 (x:V) (a:Addr) (hs:List aJ) (m:Str->Int) (H:Hp):Nat->St->Hp->Prop:=fun i σ H'=>∃ o2 o3 o4 o5 o6 o7 o8 o9 gM jc iC iU iG iZ lZ mj yp yq:Option V,σ=[some x,some (.ref a),o2,o3,o4,o5,o6,o7,o8,o9,gM,jc,iC,iU,iG,iZ,lZ,mj,yp,yq]/\Same H H'/\∀ h∈hs.take i,fM h m=true
def PK2 (x:V) (a:Addr) (h:aJ) (c5:V) (m:Str->Int) (H:Hp):Nat->St->Hp->Prop:=fun j σ H'=>∃ o8 o9 gM jc iC iU iG iZ lZ mj yp yq:Option V,σ=[some x,some (.ref a),some (.str h.name),some (.int h.low),some (.int h.high),some (.int h.aK),some c5,some (kI ((h.runs.take j).flatten.map Prod.fst)),o8,o9,gM,jc,iC,iU,iG,iZ,lZ,mj,yp,yq]/\Same H H'/\Wk h m (h.runs.take j).flatten/\∀ r∈h.runs.take j,cF r h.aK m=true
def PK3 (x:V) (a:Addr) (h:aJ) (c5 v8:V) (pre rs:List Row) (m:Str->Int) (H:Hp):Nat->St->Hp->Prop:=fun k σ H'=>∃ o9 gM jc iC iU iG iZ lZ mj yp yq:Option V,σ=[some x,some (.ref a),some (.str h.name),some (.int h.low),some (.int h.high),some (.int h.aK),some c5,some (kI ((pre++rs.take k).map Prod.fst)),some v8,o9,gM,jc,iC,iU,iG,iZ,lZ,mj,yp,yq]/\Same H H'/\Wk h m (pre++rs.take k)/\cF (rs.take k) h.aK m=true
def PK4 (x:V) (a:Addr) (h:aJ) (c5 v8:V) (k:Nat) (r:Row) (rs:List Row) (m:Str->Int) (H:Hp):Nat->St->Hp->Prop:=fun t σ H'=>∃ iC iU iG iZ lZ mj yp yq:Option V,σ=[some x,some (.ref a),some (.str h.name),some (.int h.low),some (.int h.high),some (.int h.aK),some c5,some (.str r.1),some v8,some (.int (0+(k:Int))),some (.str r.1),some (.int r.2),iC,iU,iG,iZ,lZ,mj,yp,yq]/\Same H H'/\∀ q∈(rs.take k).take t,qX h.aK m r q=true
def PK5 (x:V) (a:Addr) (ls:List Letter) (m:Str->Int) (H:Hp):Nat->St->Hp->Prop:=fun i σ H'=>∃ o2 o3 o4 o5 o6 o7 o8 o9 gM jc iC iU iG iZ lZ mj yp yq:Option V,σ=[some x,some (.ref a),o2,o3,o4,o5,o6,o7,o8,o9,gM,jc,iC,iU,iG,iZ,lZ,mj,yp,yq]/\Same H H'/\∀ l∈ls.take i,gk l m=true
section
variable {P:Program} {w:World} {K:PySem.W.Frag} {mg:Str->Option Value} {base:Heap} {t8:Tok}
theorem Uw:bG ["_law_instants"] ["_law_instants"] (aA vJ):=⟨rfl,rfl,rfl,by decide +kernel,rfl,by decide +kernel,by decide +kernel⟩
theorem Ux {f:Addr} {fd:FuncData} (F:nG K "_law_told" "_law_told" vJ f fd) (T:Txt mg t8):aX P w K mg base dM 1 f fd ["_law_instants"] zW:=by
 refine F.ok Uw (fun vs H Q E h=>?_) (fun cdv A outer s H vs Q E hr h=>?_)
 . obtain ⟨a,m,ns,rfl,_⟩:=h
   rfl
 . obtain ⟨a,m,ns,rfl,hi,few,q⟩:=h
   have mJ:sizeLine=16777216:=sizeLine_eq
   refine ⟨_,(aH (aZ (dB bY rfl T.tuple PyProof.Rows.boot_tuple (aj (dJ (g8:=aA vJ) (own:=["_law_row"]) (cap:=["_law_instants"]) (ix:=[0]) rfl rfl ⟨rfl,by decide +kernel,by decide +kernel,by decide +kernel,rfl,by decide +kernel⟩ (fO (aU (zc rfl) rfl T.sorted PyProof.Rows.boot_sorted (aj (pV 0) ak))) (fun b=>(aB (i:=0) (show (["_law_row","_law_instants"]:List Str).Nodup by decide +kernel) rfl (Or.inl rfl))) (fun b=>bU) (fun b=>(bI (aj (pV 0) (aj (bZ (cV hr) (pV 1) (pV 0) (fun _ _=>rfl)) ak))))) ak)))),?_⟩
   obtain ⟨kvs,rd,ek,ev⟩:=id hi
   refine ⟨a,kvs,ns,rfl,rd,ek,by omega,fun l ss hl pm so=>?_⟩
   have s1:Same H (upd H l (.lst (ss.map V.str))):=(Same.refl H).upd hl
   have e1:upd H l (.lst (ss.map V.str)) l=some (.lst (ss.map V.str)):=aq
   generalize upd H l (.lst (ss.map V.str))=H1 at s1 e1 ⊢
   have lss:ss.length=ns.length:=pm.length_eq
   refine ⟨l,rfl,⟨_,dg.of e1⟩,fun D hD=>pB (xs:=ss.map V.str) (fun i H'=>∃ zs,fB H1 H' D zs/\Paired (dZ H') zs (d8 (ss.take i) m)) ⟨[],fB.start hD,.nil⟩ (fun i H' _ G=>by obtain ⟨_,G,_⟩:=G; exact dg.of (G.same _ _ e1)) (fun H2 G=>?_) (fun i y H2 hy hi' G b=>?_)⟩
   . obtain ⟨zs,G,pz⟩:=G
     rw [List.length_map,List.take_length] at pz
     refine ⟨D,zs,rfl,.inl ⟨dg.of G.at',fun l3 hl3=>?_⟩⟩
     have s3:Same H2 (upd H2 l3 (.tup zs)):=(Same.refl H2).upd hl3
     exact q l3 ss _ ⟨l3,zs,rfl,aq,aO (fun _ _ z=>z.ts s3.tups) pz⟩ pm so ((s1.trans G.same).trans s3)
   . obtain ⟨zs,G,pz⟩:=G
     rw [List.getElem?_map] at hy
     obtain ⟨n,hn,rfl⟩:=Option.map_eq_some_iff.mp hy
     have lz:=pz.length
     unfold d8 at lz
     rw [List.length_map,List.length_take] at lz
     refine ⟨a,.int (m n),rfl,((hi.same (cQ.of (s1.trans G.same))).mom).get (pm.mem_iff.mp (List.mem_of_getElem? hn)),?_⟩
     refine ⟨by show 2<=sizeLine; omega,fun p hp=>?_⟩
     have s3:Same H2 (upd H2 p (.tup [.str n,.int (m n)])):=(Same.refl H2).upd hp
     have e3:upd H2 p (.tup [.str n,.int (m n)]) p=some (.tup [.str n,.int (m n)]):=aq
     generalize upd H2 p (.tup [.str n,.int (m n)])=H3 at s3 e3 ⊢
     have G3:=G.more s3
     refine ⟨zs,G3.at',by omega,nx hi' ⟨zs++[.ref p],G3.put hD _,?_⟩⟩
     have pD:p≠D:=fun z=>by rw [z,G.at'] at hp; cases hp
     have tt:dX H3 (upd H3 D (.lst (zs++[.ref p]))):=fun c xs e=>by rw [aL (fun z=>by rw [z,G3.at'] at e; cases e)]; exact e
     rw [List.take_add_one,hn]
     show Paired _ _ (d8 (ss.take i++[n]) m)
     unfold d8
     rw [List.map_append]
     exact fJ (aO (fun _ _ z=>(z.ts s3.tups).ts tt) pz) (.cons ⟨p,rfl,tt _ _ e3⟩ .nil)
theorem cM:bG ["_law_ledger_here","_law_instants","_law_name","_law_low","_law_high","_law_drift","_law_runs","_law_behind","_law_run","_law_k","_law_row","_law_reading","_law_ahead","_law_other","_law_apart_here","_law_sent","_law_taken","_law_least","_law_most","_law_way_here"] ["_law_ledger_here","_law_instants"] (aA su):=⟨rfl,rfl,rfl,by decide +kernel,rfl,by decide +kernel,by decide +kernel⟩
theorem QT {f:Addr} {fd:FuncData} (F:nG K "_law_keeps" "_law_keeps" su f fd) (T:Txt mg t8):aX P w K mg base dM 1 f fd ["_law_ledger_here","_law_instants"] zX:=by
 refine F.ok cM (fun vs H Q E h=>?_) (fun cdv A outer s H vs Q E hr h=>?_)
 . obtain ⟨x,a,hs,ls,m,rfl,_⟩:=h
   rfl
 . obtain ⟨x,a,hs,ls,m,rfl,hx,gh,gl,mo,q⟩:=h
   have mJ:sizeLine=16777216:=sizeLine_eq
   refine ⟨_,(au (cY PassesOwn.never rfl (cX (cP jC (pV 0) aD (fun _ _=>rfl))) (cT rfl (aG (aB (i:=2) cM.nd rfl (Or.inl rfl)) (aG (aB (i:=3) cM.nd rfl (Or.inl rfl)) (aG (aB (i:=4) cM.nd rfl (Or.inl rfl)) (aG (aB (i:=5) cM.nd rfl (Or.inl rfl)) (aG (aB (i:=6) cM.nd rfl (Or.inl rfl)) bR)))))) (au (aV (i:=7) cM.nd rfl (Or.inl rfl) kO) (aH (cY PassesOwn.never rfl (cX (pV 6)) (aB (i:=8) cM.nd rfl (Or.inl rfl)) (aH (cY PassesOwn.never rfl (fP rfl T.range (aj (aU bT rfl T.len PySem.boot_len (aj (pV 8) ak)) ak)) (aB (i:=9) cM.nd rfl (Or.inl rfl)) (au (kY (cP jC (pV 8) (pV 9) (fun _ _=>rfl)) (cT rfl (aG (aB (i:=10) cM.nd rfl (Or.inl rfl)) (aG (aB (i:=11) cM.nd rfl (Or.inl rfl)) bR)))) (au (eV (Nv (sZ oLt (aY jB (pV 11) (bZ (cV hr) (pV 1) (pV 10) (fun _ _=>rfl))) (pV 3) (bJ _)) (pw_or1 (sZ Sv (aY jB (pV 11) (bZ (cV hr) (pV 1) (pV 10) (fun _ _=>rfl))) (pV 4) (bJ _)))) (aH (aZ iH)) bO) (au (eV (tu (rG (uw (pV 7))) (pw_and1 (sZ oLt (bZ (cV hr) (pV 1) (pV 10) (fun _ _=>rfl)) (aY gF (bZ (cV hr) (pV 1) (pV 7) (fun _ _=>rfl)) aD) (bJ _)))) (aH (aZ iH)) bO) (au (aV (i:=7) cM.nd rfl (Or.inl rfl) (pV 10)) (aH (cY PassesOwn.never rfl (cX (gR mK (pV 8) mG (J7 (pV 9)))) (cT rfl (aG (aB (i:=12) cM.nd rfl (Or.inl rfl)) (aG (aB (i:=13) cM.nd rfl (Or.inl rfl)) bR))) (au (aV (i:=14) cM.nd rfl (Or.inl rfl) (aY gF (aY jB (aY jB (bZ (cV hr) (pV 1) (pV 10) (fun _ _=>rfl)) (bZ (cV hr) (pV 1) (pV 12) (fun _ _=>rfl))) (pV 11)) (pV 13))) (aH (eV (Nv (sZ Sv (pV 14) (pV 5) (bJ _)) (pw_or1 (sZ oLt (pV 14) (aY jB aD (pV 5)) (bJ _)))) (aH (aZ iH)) bO))))))))))))))) (au (cY PassesOwn.never rfl (cX (cP jC (pV 0) aD (fun _ _=>rfl))) (cT rfl (aG (aB (i:=15) cM.nd rfl (Or.inl rfl)) (aG (aB (i:=16) cM.nd rfl (Or.inl rfl)) (aG (aB (i:=17) cM.nd rfl (Or.inl rfl)) (aG (aB (i:=18) cM.nd rfl (Or.inl rfl)) bR))))) (au (aV (i:=19) cM.nd rfl (Or.inl rfl) (aY jB (bZ (cV hr) (pV 1) (pV 16) (fun _ _=>rfl)) (bZ (cV hr) (pV 1) (pV 15) (fun _ _=>rfl)))) (aH (eV (Nv (sZ oLt (pV 19) (pV 17) (bJ _)) (pw_or1 (tu (rG (uw (pV 18))) (pw_and1 (sZ Sv (pV 19) (pV 18) (bJ _)))))) (aH (aZ iH)) bO)))) (aH (aZ iH)))),?_⟩
   obtain ⟨ca,y,z,rfl,hca,hH,hL⟩:=hx
   obtain ⟨cy,vy,rfl,hcy,py⟩:=hH
   obtain ⟨cz,vz,rfl,hcz,pz⟩:=hL
   have no:∀ H',Same H H'->cR hs ls m=false->Q (.bl false) H':=fun H' s' e=>by have w:=q H' s'; rw [e] at w; exact w
   refine gj (bM.of hca) (i:=0) (v:=.ref cy) (by rfl) ?_
   refine ⟨cy,rfl,⟨_,bM.of hcy⟩,gP (xs:=vy) (PK1 (.ref ca) a hs m H) ⟨none,none,none,none,none,none,none,none,none,none,none,none,none,none,none,none,none,none,rfl,Same.refl _,fun h hh=>by simp at hh⟩ (fun i σ H' _ hz=>by obtain ⟨_o2,_o3,_o4,_o5,_o6,_o7,Za,Wm,Ds,Uy,Lr,Ls,Lw,Lx,Ly,Lz,Zb,Zc,_,s',_⟩:=hz; exact bM.of (s' _ _ hcy)) (fun i v σ H1 hv hz=>?_) (fun σ H1 hz=>?_)⟩
   . obtain ⟨o2,o3,o4,o5,o6,o7,o8,o9,gM,jc,iC,iU,iG,iZ,lZ,mj,yp,yq,rfl,s1,k1⟩:=hz
     obtain ⟨h,hhi,c,bb,rfl,hc,c5,vr,rfl,hc5,pr⟩:=aQ py hv
     have hmem:=List.mem_of_getElem? hhi
     have gd:=gh.all h hmem
     have moh:∀ H',Same H H'->jX H' a m (aR h):=fun H' s'=>(mo.same (cQ.of s')).part fun n hn=>List.mem_flatMap.mpr ⟨h,hmem,hn⟩
     refine ⟨c,_,rfl,bM.of (s1 _ _ hc),rfl,_,_,rfl,_,_,rfl,_,_,rfl,_,_,rfl,_,_,rfl,rfl,?_⟩
     refine ⟨c5,rfl,⟨_,bM.of (s1 _ _ hc5)⟩,gP (xs:=vr) (PK2 (.ref ca) a h (.ref c5) m H) ⟨_,_,_,_,_,_,_,_,_,_,_,_,rfl,s1,⟨fun r hr=>by simp at hr,rfl⟩,fun r hr=>by simp at hr⟩ (fun j σ H' _ hz=>by obtain ⟨Za,Wm,Ds,Uy,Lr,Ls,Lw,Lx,Ly,Lz,Zb,Zc,_,s',_⟩:=hz; exact bM.of (s' _ _ hc5)) (fun j v8 σ H2 hv8 hz=>?_) (fun σ H2 hz=>?_)⟩
     . obtain ⟨o8,o9,gM,jc,iC,iU,iG,iZ,lZ,mj,yp,yq,rfl,s2,pre,dr⟩:=hz
       obtain ⟨rs,hrs,c8,ws,rfl,Zd,pw⟩:=aQ pr hv8
       have wM:=List.mem_of_getElem? hrs
       have gr:=gd.runs rs wM
       have lw:=pw.length
       have few:=gr.few
       refine ⟨c8,ws,rfl,.inr (bM.of (s2 _ _ Zd)),?_⟩
       have split:h.runs=h.runs.take j++(rs :: h.runs.drop (j+1)):=by
         obtain ⟨li,fi⟩:=List.getElem?_eq_some_iff.mp hrs
         rw [<- fi,List.getElem_cons_drop,List.take_append_drop]
       refine ⟨(ws.length:Int),rfl,by omega,by omega,iz (lo:=0) (n:=(ws.length:Int).toNat) (PK3 (.ref ca) a h (.ref c5) (.ref c8) (h.runs.take j).flatten rs m H) ⟨_,_,_,_,_,_,_,_,_,_,_,by rw [List.take_zero,List.append_nil]; rfl,s2,by rw [List.take_zero,List.append_nil]; exact pre,by rw [List.take_zero]; rfl⟩ (fun k σ H3 hk hz=>?_) (fun σ H3 hz=>?_)⟩
       . obtain ⟨o9,gM,jc,iC,iU,iG,iZ,lZ,mj,yp,yq,rfl,s3,LC,dr3⟩:=hz
         have hk':k<ws.length:=by omega
         obtain ⟨vk,hvk⟩:∃ v,ws[k]?=some v:=⟨_,List.getElem?_eq_getElem hk'⟩
         obtain ⟨r,hrk,cr,rfl,hcr⟩:=aQ pw hvk
         have hrm:=List.mem_of_getElem? hrk
         have inh:r∈bL h:=List.mem_flatten.mpr ⟨rs,wM,hrm⟩
         have inn:r.1∈aR h:=List.mem_map_of_mem inh
         have Gs:rs.take (k+1)=rs.take k++[r]:=by rw [List.take_add_one,hrk]; rfl
         have UG:∃ post,bL h=((h.runs.take j).flatten++rs.take k)++(r :: post):=by
           refine ⟨rs.drop (k+1)++(h.runs.drop (j+1)).flatten,?_⟩
           have e2:rs=rs.take k++(r :: rs.drop (k+1)):=by
             obtain ⟨li,fi⟩:=List.getElem?_eq_some_iff.mp hrk
             rw [<- fi,List.getElem_cons_drop,List.take_append_drop]
           unfold bL
           conv=>lhs; rw [split]
           rw [List.flatten_append,List.flatten_cons]
           conv=>lhs; rw [e2]
           simp only [List.append_assoc,List.cons_append]
         refine gj (bM.of (s3 _ _ Zd)) (i:=0+(k:Int)) (v:=.ref cr) (by rw [Int.zero_add]; exact gQ hvk) ?_
         refine ⟨cr,_,rfl,bM.of (s3 _ _ hcr),rfl,_,_,rfl,_,_,rfl,rfl,?_⟩
         refine ⟨a,.int (m r.1),rfl,(moh H3 s3).get inn,?_⟩
         show (if decide (r.2-m r.1<h.low)=true then _ else _)
         by_cases c1:r.2-m r.1<h.low
         . rw [if_pos (decide_eq_true c1)]
           refine no H3 s3 (jW hmem (qY fun w=>?_))
           have z:=w.1 r inh
           unfold jd at z
           obtain ⟨z1,_⟩:=Bool.and_eq_true_iff.mp z
           have:=of_decide_eq_true z1
           omega
         . rw [if_neg (by simpa using c1)]
           refine ⟨a,.int (m r.1),rfl,(moh H3 s3).get inn,?_⟩
           show (if decide (h.high<r.2-m r.1)=true then _ else _)
           by_cases c2:h.high<r.2-m r.1
           . rw [if_pos (decide_eq_true c2)]
             refine no H3 s3 (jW hmem (qY fun w=>?_))
             have z:=w.1 r inh
             unfold jd at z
             obtain ⟨_,z1⟩:=Bool.and_eq_true_iff.mp z
             have:=of_decide_eq_true z1
             omega
           . rw [if_neg (by simpa using c2)]
             have abV:jd h m r=true:=by
               unfold jd
               exact Bool.and_eq_true_iff.mpr ⟨decide_eq_true (by omega),decide_eq_true (by omega)⟩
             have ens:((h.runs.take j).flatten++rs.take (k+1)).map Prod.fst=((h.runs.take j).flatten++rs.take k).map Prod.fst++[r.1]:=by
               rw [Gs,<- List.append_assoc,List.map_append]; rfl
             refine abU ?_
             dsimp only
             refine mQ (fun σ' H'=>∃ L:V,σ'=[some (.ref ca),some (.ref a),some (.str h.name),some (.int h.low),some (.int h.high),some (.int h.aK),some (.ref c5),some L,some (.ref c8),some (.int (0+(k:Int))),some (.str r.1),some (.int r.2),iC,iU,iG,iZ,lZ,mj,yp,yq]/\H'=H3/\je m (((h.runs.take j).flatten++rs.take (k+1)).map Prod.fst)=true) (fun U hU=>?_) (fun σ' H' hN=>?_)
             . refine ⟨_,rfl,?_⟩
               cases Gu:(((h.runs.take j).flatten++rs.take k).map Prod.fst).getLast? with
               | none =>
                 have eL:kI (((h.runs.take j).flatten++rs.take k).map Prod.fst)=.non:=by unfold kI; rw [Gu]
                 rw [eL]
                 refine hU _ _ ⟨.non,rfl,rfl,?_⟩
                 rw [ens,lX,Gu,LC.2]; rfl
               | some b =>
                 have eL:kI (((h.runs.take j).flatten++rs.take k).map Prod.fst)=.str b:=by unfold kI; rw [Gu]
                 rw [eL]
                 have inb:b∈aR h:=by
                   obtain ⟨post,ep⟩:=UG
                   have z:=List.mem_of_getLast? Gu
                   show b∈(bL h).map Prod.fst
                   rw [ep,List.map_append]
                   exact List.mem_append_left _ z
                 refine ⟨a,.int (m r.1),rfl,(moh H3 s3).get inn,?_⟩
                 refine ⟨a,.int (m b),rfl,(moh H3 s3).get inb,?_⟩
                 show (if decide (m r.1<m b+1)=true then _ else _)
                 by_cases c3:m r.1<m b+1
                 . rw [if_pos (decide_eq_true c3)]
                   refine no H3 s3 (jW hmem (qY fun w=>?_))
                   obtain ⟨post,ep⟩:=UG
                   have z:=w.2.1
                   have e4:aR h=(((h.runs.take j).flatten++rs.take k).map Prod.fst++[r.1])++post.map Prod.fst:=by
                     show (bL h).map Prod.fst=_
                     rw [ep,List.map_append,List.map_cons]
                     simp only [List.append_assoc,List.cons_append,List.nil_append]
                   rw [e4] at z
                   have z2:=zH m _ _ z
                   rw [lX,Gu] at z2
                   obtain ⟨_,z3⟩:=Bool.and_eq_true_iff.mp z2
                   have z4:1<=m r.1-m b:=of_decide_eq_true z3
                   omega
                 . rw [if_neg (by simpa using c3)]
                   refine hU _ _ ⟨.str b,rfl,rfl,?_⟩
                   rw [ens,lX,Gu,LC.2]
                   show decide (1<=m r.1-m b)=true
                   exact decide_eq_true (by omega)
             . obtain ⟨L,rfl,rfl,adj⟩:=hN
               refine ⟨⟨c8,ws,rfl,s3 _ _ Zd,fun p H4 ep s4=>?_⟩⟩
               rw [Int.zero_add,QS (by omega)] at ep
               have S4:=s3.trans s4
               refine ⟨p,rfl,⟨_,bM.of ep⟩,gP (xs:=ws.take k) (PK4 (.ref ca) a h (.ref c5) (.ref c8) k r rs m H4) ⟨_,_,_,_,_,_,_,_,rfl,Same.refl _,fun q hq=>by simp at hq⟩ (fun t σ H' _ hz=>?_) (fun t v σ H5 hv hz=>?_) (fun σ H5 hz=>?_)⟩
               . obtain ⟨Lr,Ls,Lw,Lx,Ly,Lz,Zb,Zc,_,s',_⟩:=hz
                 exact bM.of (s' _ _ ep)
               . obtain ⟨iC,iU,iG,iZ,lZ,mj,yp,yq,rfl,s5,pk⟩:=hz
                 have S5:=S4.trans s5
                 have lt:t<k:=by
                   have z:=(List.getElem?_eq_some_iff.mp hv).1
                   rw [List.length_take] at z
                   omega
                 rw [List.getElem?_take_of_lt lt] at hv
                 obtain ⟨q',hqt,cq,rfl,hcq⟩:=aQ pw hv
                 have hqm:=List.mem_of_getElem? hqt
                 have inq:q'.1∈aR h:=List.mem_map_of_mem (List.mem_flatten.mpr ⟨rs,wM,hqm⟩)
                 refine ⟨cq,_,rfl,bM.of (S5 _ _ hcq),rfl,_,_,rfl,_,_,rfl,rfl,?_⟩
                 refine ⟨a,.int (m r.1),rfl,(moh H5 S5).get inn,?_⟩
                 refine ⟨a,.int (m q'.1),rfl,(moh H5 S5).get inq,?_⟩
                 show (if decide (h.aK<m r.1-m q'.1-r.2+q'.2)=true then _ else _)
                 have bad:qX h.aK m r q'=false->Q (.bl false) H5:=fun e=>no H5 S5 (jW hmem (qY fun w=>by
                   have z:=w.2.2 rs wM
                   rw [Qe hrm hqm e] at z
                   cases z))
                 by_cases c3:h.aK<m r.1-m q'.1-r.2+q'.2
                 . rw [if_pos (decide_eq_true c3)]
                   exact bad (by unfold qX; rw [decide_eq_false (by omega)]; rfl)
                 . rw [if_neg (by simpa using c3)]
                   show (if decide (m r.1-m q'.1-r.2+q'.2<0-h.aK)=true then _ else _)
                   by_cases c4:m r.1-m q'.1-r.2+q'.2<0-h.aK
                   . rw [if_pos (decide_eq_true c4)]
                     exact bad (by unfold qX; rw [decide_eq_false (p:=0-h.aK<=_) (by omega),Bool.and_false])
                   . rw [if_neg (by simpa using c4)]
                     refine ⟨_,_,_,_,_,_,_,_,rfl,s5,fun q2 hq2=>?_⟩
                     have e5:(rs.take k)[t]?=some q':=by rw [List.getElem?_take_of_lt lt]; exact hqt
                     rw [List.take_add_one,e5] at hq2
                     rcases List.mem_append.mp hq2 with z | z
                     . exact pk q2 z
                     . rw [show q2=q' from by simpa using z]
                       unfold qX
                       exact Bool.and_eq_true_iff.mpr ⟨decide_eq_true (by omega),decide_eq_true (by omega)⟩
               . obtain ⟨iC,iU,iG,iZ,lZ,mj,yp,yq,rfl,s5,pk⟩:=hz
                 have S5:=S4.trans s5
                 have e5:(rs.take k).take (ws.take k).length=rs.take k:=List.take_of_length_le (by rw [List.length_take,List.length_take]; omega)
                 rw [e5] at pk
                 refine ⟨_,_,_,_,_,_,_,_,_,_,_,by rw [ens,wu],S5,⟨fun r2 hr2=>?_,adj⟩,?_⟩
                 . rw [Gs,<- List.append_assoc] at hr2
                   rcases List.mem_append.mp hr2 with z | z
                   . exact LC.1 r2 z
                   . rw [List.mem_singleton.mp z]; exact abV
                 . rw [Gs]
                   exact Gb gd.aK dr3 pk
       . obtain ⟨o9,gM,jc,iC,iU,iG,iZ,lZ,mj,yp,yq,rfl,s3,LC,dr3⟩:=hz
         have e1:rs.take (ws.length:Int).toNat=rs:=List.take_of_length_le (by omega)
         rw [e1] at LC dr3
         have e2:(h.runs.take (j+1))=h.runs.take j++[rs]:=by rw [List.take_add_one,hrs]; rfl
         have e3:(h.runs.take (j+1)).flatten=(h.runs.take j).flatten++rs:=by rw [e2,List.flatten_append]; simp
         refine ⟨_,_,_,_,_,_,_,_,_,_,_,_,by rw [e1,e3],s3,by rw [e3]; exact LC,fun r hr=>?_⟩
         rw [e2] at hr
         rcases List.mem_append.mp hr with z | z
         . exact dr r z
         . rw [List.mem_singleton.mp z]; exact dr3
     . obtain ⟨o8,o9,gM,jc,iC,iU,iG,iZ,lZ,mj,yp,yq,rfl,s2,pre,dr⟩:=hz
       have lr:=pr.length
       have e1:h.runs.take vr.length=h.runs:=List.take_of_length_le (by omega)
       rw [e1] at pre dr
       refine ⟨_,_,_,_,_,_,_,_,_,_,_,_,_,_,_,_,_,_,rfl,s2,fun k hk=>?_⟩
       rw [List.take_add_one,hhi] at hk
       rcases List.mem_append.mp hk with z | z
       . exact k1 k z
       . rw [show k=h from by simpa using z]
         exact cA.mpr ⟨pre.1,pre.2,dr⟩
   . obtain ⟨o2,o3,o4,o5,o6,o7,o8,o9,gM,jc,iC,iU,iG,iZ,lZ,mj,yp,yq,rfl,s1,k1⟩:=hz
     have ly:=py.length
     have e1:hs.take vy.length=hs:=List.take_of_length_le (by omega)
     rw [e1] at k1
     refine gj (bM.of (s1 _ _ hca)) (i:=1) (v:=.ref cz) (by rfl) ?_
     refine ⟨cz,rfl,⟨_,bM.of (s1 _ _ hcz)⟩,gP (xs:=vz) (PK5 (.ref ca) a ls m H) ⟨_,_,_,_,_,_,_,_,_,_,_,_,_,_,_,_,_,_,rfl,s1,fun l hl=>by simp at hl⟩ (fun i σ H' _ hz=>by obtain ⟨_o2,_o3,_o4,_o5,_o6,_o7,Za,Wm,Ds,Uy,Lr,Ls,Lw,Lx,Ly,Lz,Zb,Zc,_,s',_⟩:=hz; exact bM.of (s' _ _ hcz)) (fun i v σ H2 hv hz=>?_) (fun σ H2 hz=>?_)⟩
     . obtain ⟨o2,o3,o4,o5,o6,o7,o8,o9,gM,jc,iC,iU,iG,iZ,lZ,mj,yp,yq,rfl,s2,k2⟩:=hz
       obtain ⟨l,hli,cl,rfl,hcl⟩:=aQ pz hv
       have hmem:=List.mem_of_getElem? hli
       obtain ⟨h1,m1,h2,m2,n1,n2,_⟩:=(gl.all l hmem).Fx
       have in1:l.1.1∈namesOf hs:=List.mem_flatMap.mpr ⟨h1,m1,n1⟩
       have in2:l.1.2∈namesOf hs:=List.mem_flatMap.mpr ⟨h2,m2,n2⟩
       have mo2:=mo.same (cQ.of s2)
       refine ⟨cl,_,rfl,bM.of (s2 _ _ hcl),rfl,_,_,rfl,_,_,rfl,_,_,rfl,_,_,rfl,rfl,?_⟩
       refine ⟨a,.int (m l.1.2),rfl,mo2.get in2,?_⟩
       refine ⟨a,.int (m l.1.1),rfl,mo2.get in1,?_⟩
       show (if decide (m l.1.2-m l.1.1<l.2.1)=true then _ else _)
       have fin:gk l m=true->PK5 (.ref ca) a ls m H (i+1) [some (.ref ca),some (.ref a),o2,o3,o4,o5,o6,o7,o8,o9,gM,jc,iC,iU,iG,some (.str l.1.1),some (.str l.1.2),some (.int l.2.1),some (oE l.2.2),some (.int (m l.1.2-m l.1.1))] H2:=fun kl=>by
         refine ⟨_,_,_,_,_,_,_,_,_,_,_,_,_,_,_,_,_,_,rfl,s2,fun k hk=>?_⟩
         rw [List.take_add_one,hli] at hk
         rcases List.mem_append.mp hk with z | z
         . exact k2 k z
         . rw [show k=l from by simpa using z]; exact kl
       by_cases c1:m l.1.2-m l.1.1<l.2.1
       . rw [if_pos (decide_eq_true c1)]
         refine no H2 s2 (tU hmem ?_)
         unfold gk
         rw [decide_eq_false (by omega)]; rfl
       . rw [if_neg (by simpa using c1)]
         obtain ⟨⟨se,ta⟩,le,mst⟩:=l
         cases mst with
         | none =>
           refine ⟨_,rfl,?_⟩
           exact fin (by unfold gk; dsimp only at c1 ⊢; rw [decide_eq_true (by omega)]; rfl)
         | some y =>
           refine ⟨_,rfl,?_⟩
           show (if decide (y<m ta-m se)=true then _ else _)
           by_cases c2:y<m ta-m se
           . rw [if_pos (decide_eq_true c2)]
             refine no H2 s2 (tU hmem ?_)
             unfold gk
             dsimp only
             rw [decide_eq_false (p:=m ta-m se<=y) (by omega),Bool.and_false]
           . rw [if_neg (by simpa using c2)]
             exact fin (by unfold gk; dsimp only at c1 ⊢; rw [decide_eq_true (by omega),decide_eq_true (by omega)]; rfl)
     . obtain ⟨o2,o3,o4,o5,o6,o7,o8,o9,gM,jc,iC,iU,iG,iZ,lZ,mj,yp,yq,rfl,s2,k2⟩:=hz
       have lz:=pz.length
       have e2:ls.take vz.length=ls:=List.take_of_length_le (by omega)
       rw [e2] at k2
       have w:=q H2 s2
       have e3:cR hs ls m=true:=Bool.and_eq_true_iff.mpr ⟨List.all_eq_true.mpr k1,List.all_eq_true.mpr k2⟩
       rw [e3] at w
       exact w
end
end mW
namespace mW
open PySem L2 gY
theorem UJ {K:PySem.W.Frag} {σ:St} {H:Hp} {te:TE} {ds:List Da} {iF:Nat} {D:Ends} {a:Addr} {vs:List V} {d:Da} (e:σ[iF]?=some (some (.ref a))) (ha:H a=some (.lst vs)) (hv:bH H vs ds) (few:ds.length<=1000000) (elt:TD te σ H d)
   (fin:∀ H' ws,Kp H H'->aP a H H'->H' a=some (.lst ws)->bH H' ws (ds++[d])->D.nx σ H'):lD (JQ K "list" ju (tV iF) (cj te iI)) D σ H:=by
 have mJ:sizeLine=16777216:=sizeLine_eq
 have lw:=hv.len
 unfold lD JQ tV
 rw [e]
 refine ⟨.inl ⟨rfl,_,dg.of ha⟩,?_⟩
 refine elt.r H (Same.refl _) _ fun v H2 s2 hvd=>?_
 have Wb:=s2 _ _ ha
 exact ⟨a,vs,v,rfl,rfl,Wb,by omega,fin _ _ ((Kp.of s2).trans (Kp.put Wb)) ((aP.of s2).upd) aq (((hv.same s2).app (.cons hvd .nil)).kp (Kp.put Wb))⟩
def Ze:Option Str->Da
 | none=>.non
 | some n=>.str n
def iY:Option Str->V
 | none=>.non
 | some n=>.str n
abbrev Step:=Da × Option Str × Option Str × Int
def wz (s:Step):Da:=.tup [s.1,Ze s.2.1,Ze s.2.2.1,.int s.2.2.2]
def SL (S:Step->Prop) (H0:Hp) (F:Addr) (st:List Step) (H:Hp):Prop:=∃ vs,H F=some (.lst vs)/\bH H vs (st.map wz)/\Same H0 H/\∀ s∈st,S s
theorem SL.same {S:Step->Prop} {H0 H:Hp} {F:Addr} {st:List Step} (L:SL S H0 F st H):Same H0 H:=let ⟨_,_,_,s,_⟩:=L; s
theorem SL.more {S:Step->Prop} {H0 H H':Hp} {F:Addr} {st:List Step} (L:SL S H0 F st H) (s:Same H H'):SL S H0 F st H':=let ⟨vs,e,d,s0,w⟩:=L; ⟨vs,s _ _ e,d.same s,s0.trans s,w⟩
section
variable {K:PySem.W.Frag} {D:Ends} {u:TS} {σ:St} {H0 H:Hp} {F:Addr} {st:List Step} {s:Step} {te:TE} {iF:Nat} {S:Step->Prop}
theorem zY (hF0:H0 F=none) (e:σ[iF]?=some (some (.ref F))) (L:SL S H0 F st H) (few:st.length<=1000000) (sd:S s) (elt:TD te σ H (wz s)) (fin:∀ H',dX H H'->SL S H0 F (st++[s]) H'->D.nx σ H'):lD (JQ K "list" ju (tV iF) (cj te iI)) D σ H:=by
 obtain ⟨vs,eF,d,s0,w0⟩:=L
 refine UJ e eF d (by rw [List.length_map]; exact few) elt fun H' ws kp sb ew dw=>fin H' kp.tup ⟨ws,ew,?_,fun b o eb=>sb b o (fun z=>by rw [z,hF0] at eb; cases eb) (s0 b o eb),fun x hx=>?_⟩
 . rw [List.map_append]
   exact dw
 . rcases List.mem_append.mp hx with z | z
   . exact w0 x z
   . rw [List.mem_singleton.mp z]; exact sd
theorem uL (hF0:H0 F=none) (e:σ[iF]?=some (some (.ref F))) (L:SL S H0 F st H) (few:st.length<=1000000) (sd:S s) (elt:TD te σ H (wz s)) (fin:∀ H',dX H H'->SL S H0 F (st++[s]) H'->u D σ H'):nA (lD (JQ K "list" ju (tV iF) (cj te iI))) u D σ H:=zY (D:={ D with nx:=u D }) hF0 e L few sd elt fin
end
def uc (p q:Option Str) (w:Int) (st:List Step):Prop:=∃ l,(l,p,q,w)∈st
theorem uc.mono {p q:Option Str} {w:Int} {st:List Step} (h:uc p q w st) (ex:List Step):uc p q w (st++ex):=let ⟨l,m⟩:=h; ⟨l,List.mem_append_left _ m⟩
theorem uc.last (l:Da) (p q:Option Str) (w:Int) (st:List Step):uc p q w (st++[(l,p,q,w)]):=⟨l,by simp⟩
def yr (h:aJ) (r:Row) (st:List Step):Prop:=uc none (some r.1) (r.2-h.high) st/\uc (some r.1) none (h.low-r.2) st
def wA (ns:List Str) (st:List Step):Prop:=∀ (pre post:List Str) (a b:Str),ns=pre++a :: b :: post->uc (some a) (some b) 1 st
def zZ (d:Int) (q r:Row) (st:List Step):Prop:=uc (some q.1) (some r.1) (r.2-q.2-d) st/\uc (some r.1) (some q.1) (q.2-r.2-d) st
def jM (d:Int) (rs:List Row) (st:List Step):Prop:=∀ (i k:Nat) (q r:Row),i<k->rs[i]?=some q->rs[k]?=some r->zZ d q r st
def kJ (h:aJ) (st:List Step):Prop:=(∀ r∈bL h,yr h r st)/\wA (aR h) st/\∀ r∈h.runs,jM h.aK r st
def rA (l:Letter) (st:List Step):Prop:=uc (some l.1.1) (some l.1.2) l.2.1 st/\∀ z,l.2.2=some z->uc (some l.1.2) (some l.1.1) (0-z) st
def Aa (hs:List aJ) (ls:List Letter) (st:List Step):Prop:=(∀ h∈hs,kJ h st)/\∀ l∈ls,rA l st
def wN (P:List Step->Prop):Prop:=∀ st ex,P st->P (st++ex)
theorem rB (h:aJ) (r:Row):wN (yr h r):=fun _ ex p=>⟨p.1.mono ex,p.2.mono ex⟩
theorem wB (ns:List Str):wN (wA ns):=fun _ ex p pre post a b e=>(p pre post a b e).mono ex
theorem sJ (d:Int) (q r:Row):wN (zZ d q r):=fun _ ex p=>⟨p.1.mono ex,p.2.mono ex⟩
theorem jY (d:Int) (rs:List Row):wN (jM d rs):=fun _ ex p i k q r lt e1 e2=>sJ d q r _ ex (p i k q r lt e1 e2)
theorem qz (h:aJ):wN (kJ h):=fun _ ex p=>⟨fun r hr=>rB h r _ ex (p.1 r hr),wB _ _ ex p.2.1,fun r hr=>jY _ _ _ ex (p.2.2 r hr)⟩
theorem Dt (l:Letter):wN (rA l):=fun _ ex p=>⟨p.1.mono ex,fun z e=>(p.2 z e).mono ex⟩
def P6 (hs:List aJ) (h:aJ) (i j k:Nat) (rs:List Row):List Step->Prop:=fun st=>((∀ h'∈hs.take i,kJ h' st)/\∀ r∈h.runs.take j,jM h.aK r st)/\(∀ r'∈(h.runs.take j).flatten++rs.take (k+1),yr h r' st)/\wA (((h.runs.take j).flatten++rs.take (k+1)).map Prod.fst) st/\jM h.aK (rs.take k) st
theorem Gv {ns:List Str} {n:Str} {st:List Step} (h:wA ns st) (hl:∀ a,ns.getLast?=some a->uc (some a) (some n) 1 st):wA (ns++[n]) st:=by
 intro pre post a b e
 rcases List.eq_nil_or_concat post with rfl | ⟨post',z,rfl⟩
 . have e2:ns++[n]=(pre++[a])++[b]:=by rw [e]; simp
   obtain ⟨e3,e4⟩:=List.append_inj_right' e2 rfl |> fun z=>(⟨List.append_inj_left' e2 rfl,z⟩:ns=pre++[a]/\[n]=[b])
   cases e4
   exact hl a (by rw [e3,List.getLast?_concat])
 . have e2:ns++[n]=(pre++a :: b :: post')++[z]:=by rw [e]; simp
   exact h pre post' a b (List.append_inj_left' e2 rfl)
theorem Ab {d:Int} {rs:List Row} {r:Row} {st:List Step} (h:jM d rs st) (hl:∀ q∈rs,zZ d q r st):jM d (rs++[r]) st:=by
 intro i k q r2 lt e1 e2
 rcases Nat.lt_or_ge k rs.length with z | z
 . rw [List.getElem?_append_left z] at e2
   rw [List.getElem?_append_left (by omega)] at e1
   exact h i k q r2 lt e1 e2
 . rw [List.getElem?_append_right z] at e2
   have ek:k-rs.length=0:=by
     rcases Nat.eq_zero_or_pos (k-rs.length) with w | w
     . exact w
     . rw [List.getElem?_eq_none (by simp; omega)] at e2; cases e2
   rw [ek] at e2
   cases e2
   rw [List.getElem?_append_left (by omega)] at e1
   exact hl q (List.mem_of_getElem? e1)
def pm (m:Str->Int):Option Str->Int
 | none=>0
 | some n=>m n
def Ao (hs:List aJ) (ls:List Letter) (s:Step):Prop:=∀ m,cR hs ls m=true->pm m s.2.1+s.2.2.2<=pm m s.2.2.1
theorem mq {hs:List aJ} {ls:List Letter} {m:Str->Int} {h:aJ} (e:cR hs ls m=true) (hh:h∈hs):fM h m=true:=List.all_eq_true.mp (Bool.and_eq_true_iff.mp e).1 h hh
theorem Ji {hs:List aJ} {ls:List Letter} {h:aJ} {r:Row} (hh:h∈hs) (hr:r∈bL h) (l l':Da):Ao hs ls (l,none,some r.1,r.2-h.high)/\Ao hs ls (l',some r.1,none,h.low-r.2):=by
 have k:∀ m,cR hs ls m=true->h.low<=r.2-m r.1/\r.2-m r.1<=h.high:=fun m e=>by
   have z:=(cA.mp (mq e hh)).1 r hr
   unfold jd at z
   obtain ⟨z1,z2⟩:=Bool.and_eq_true_iff.mp z
   exact ⟨of_decide_eq_true z1,of_decide_eq_true z2⟩
 refine ⟨fun m e=>?_,fun m e=>?_⟩
 . have:=k m e
   show (0:Int)+(r.2-h.high)<=m r.1
   omega
 . have:=k m e
   show m r.1+(h.low-r.2)<=(0:Int)
   omega
theorem QV {hs:List aJ} {ls:List Letter} {h:aJ} {r:Row} {pre post:List Row} {b:Str} (hh:h∈hs) (e:bL h=pre++r :: post) (gl:(pre.map Prod.fst).getLast?=some b) (l:Da):Ao hs ls (l,some b,some r.1,1):=fun m em=>by
 have z:=(cA.mp (mq em hh)).2.1
 have e4:aR h=(pre.map Prod.fst++[r.1])++post.map Prod.fst:=by
   show (bL h).map Prod.fst=_
   rw [e,List.map_append,List.map_cons]
   simp only [List.append_assoc,List.cons_append,List.nil_append]
 rw [e4] at z
 have z2:=zH m _ _ z
 rw [lX,gl] at z2
 obtain ⟨_,z3⟩:=Bool.and_eq_true_iff.mp z2
 have z4:1<=m r.1-m b:=of_decide_eq_true z3
 show m b+1<=m r.1
 omega
theorem Du {hs:List aJ} {ls:List Letter} {h:aJ} {rs:List Row} {q r:Row} (hh:h∈hs) (hr:rs∈h.runs) (hq:q∈rs) (hr2:r∈rs) (l:Da):Ao hs ls (l,some q.1,some r.1,r.2-q.2-h.aK):=fun m em=>by
 have z:=(cA.mp (mq em hh)).2.2 rs hr
 unfold cF at z
 have z1:=of_decide_eq_true z _ (List.mem_map_of_mem (f:=fun r=>r.2-m r.1) hr2) _ (List.mem_map_of_mem (f:=fun r=>r.2-m r.1) hq)
 show m q.1+(r.2-q.2-h.aK)<=m r.1
 omega
theorem wC {hs:List aJ} {ls:List Letter} {l:Letter} (hl:l∈ls) (b:Da):Ao hs ls (b,some l.1.1,some l.1.2,l.2.1)/\∀ z,l.2.2=some z->Ao hs ls (b,some l.1.2,some l.1.1,0-z):=by
 have k:∀ m,cR hs ls m=true->gk l m=true:=fun m e=>List.all_eq_true.mp (Bool.and_eq_true_iff.mp e).2 l hl
 refine ⟨fun m e=>?_,fun z ez m e=>?_⟩
 . have w:=k m e
   unfold gk at w
   have w1:l.2.1<=m l.1.2-m l.1.1:=of_decide_eq_true (Bool.and_eq_true_iff.mp w).1
   show m l.1.1+l.2.1<=m l.1.2
   omega
 . have w:=k m e
   unfold gk at w
   rw [ez] at w
   have w1:m l.1.2-m l.1.1<=z:=of_decide_eq_true (Bool.and_eq_true_iff.mp w).2
   show m l.1.2+(0-z)<=m l.1.1
   omega
def Ac:Sp:=fun vs H Q _=>∃ (x:V) (hs:List aJ) (ls:List Letter),vs=[x]/\cU H x hs ls/\bw hs/\bx hs ls/\∀ (l:Addr) (st:List Step) (H':Hp),H l=none->SL (Ao hs ls) H l st H'->Aa hs ls st->st.length<=1000000->Q (.ref l) H'
def PS1 (S:Step->Prop) (x:V) (F:Addr) (hs:List aJ) (H:Hp):Nat->St->Hp->Prop:=fun i σ H'=>∃ (st:List Step) (o2 o3 o4 o5 o6 o7 o8 o9 gM jc iC iU iG iZ lZ mj:Option V),σ=[some x,some (.ref F),o2,o3,o4,o5,o6,o7,o8,o9,gM,jc,iC,iU,iG,iZ,lZ,mj]/\SL S H F st H'/\st.length<=i * 33125/\∀ h∈hs.take i,kJ h st
def PS2 (S:Step->Prop) (x:V) (F:Addr) (h:aJ) (c5:V) (P:List Step->Prop) (B:Nat) (H:Hp):Nat->St->Hp->Prop:=fun j σ H'=>∃ (st:List Step) (o8 o9 gM jc iC iU iG iZ lZ mj:Option V),σ=[some x,some (.ref F),some (.str h.name),some (.int h.low),some (.int h.high),some (.int h.aK),some c5,some (kI ((h.runs.take j).flatten.map Prod.fst)),o8,o9,gM,jc,iC,iU,iG,iZ,lZ,mj]/\SL S H F st H'/\st.length<=B+j * 1325/\P st/\(∀ r∈(h.runs.take j).flatten,yr h r st)/\wA ((h.runs.take j).flatten.map Prod.fst) st/\∀ r∈h.runs.take j,jM h.aK r st
def PS3 (S:Step->Prop) (x:V) (F:Addr) (h:aJ) (c5 v8:V) (pre rs:List Row) (P:List Step->Prop) (B:Nat) (H:Hp):Nat->St->Hp->Prop:=fun k σ H'=>∃ (st:List Step) (o9 gM jc iC iU iG iZ lZ mj:Option V),σ=[some x,some (.ref F),some (.str h.name),some (.int h.low),some (.int h.high),some (.int h.aK),some c5,some (kI ((pre++rs.take k).map Prod.fst)),some v8,o9,gM,jc,iC,iU,iG,iZ,lZ,mj]/\SL S H F st H'/\st.length<=B+k * 53/\P st/\(∀ r∈pre++rs.take k,yr h r st)/\wA ((pre++rs.take k).map Prod.fst) st/\jM h.aK (rs.take k) st
def PS4 (S:Step->Prop) (x:V) (F:Addr) (h:aJ) (c5 v8:V) (k:Nat) (r:Row) (rs:List Row) (P:List Step->Prop) (B:Nat) (H H4:Hp):Nat->St->Hp->Prop:=fun t σ H'=>∃ (st:List Step) (iC iU iG iZ lZ mj:Option V),σ=[some x,some (.ref F),some (.str h.name),some (.int h.low),some (.int h.high),some (.int h.aK),some c5,some (.str r.1),some v8,some (.int (0+(k:Int))),some (.str r.1),some (.int r.2),iC,iU,iG,iZ,lZ,mj]/\SL S H F st H'/\dX H4 H'/\st.length<=B+t * 2/\P st/\∀ q∈(rs.take k).take t,zZ h.aK q r st
def PS5 (S:Step->Prop) (x:V) (F:Addr) (ls:List Letter) (P:List Step->Prop) (B:Nat) (H:Hp):Nat->St->Hp->Prop:=fun i σ H'=>∃ (st:List Step) (o2 o3 o4 o5 o6 o7 o8 o9 gM jc iC iU iG iZ lZ mj:Option V),σ=[some x,some (.ref F),o2,o3,o4,o5,o6,o7,o8,o9,gM,jc,iC,iU,iG,iZ,lZ,mj]/\SL S H F st H'/\st.length<=B+i * 2/\P st/\∀ l∈ls.take i,rA l st
section
variable {P:Program} {w:World} {K:PySem.W.Frag} {mg:Str->Option Value} {base:Heap} {t8:Tok}
theorem cN:bG ["_law_ledger_here","_law_found","_law_name","_law_low","_law_high","_law_drift","_law_runs","_law_behind","_law_run","_law_k","_law_row","_law_reading","_law_ahead","_law_other","_law_sent","_law_taken","_law_least","_law_most"] ["_law_ledger_here"] (aA rZ):=⟨rfl,rfl,rfl,by decide +kernel,rfl,by decide +kernel,by decide +kernel⟩
theorem QW {f:Addr} {fd:FuncData} (F:nG K "_law_steps" "_law_steps" rZ f fd) (T:Txt mg t8):aX P w K mg base dM 1 f fd ["_law_ledger_here"] Ac:=by
 refine F.ok cN (fun vs H Q E h=>?_) (fun cdv A outer s H vs Q E hr h=>?_)
 . obtain ⟨x,hs,ls,rfl,_⟩:=h
   rfl
 . obtain ⟨x,hs,ls,rfl,hx,gh,gl,q⟩:=h
   have mJ:sizeLine=16777216:=sizeLine_eq
   refine ⟨_,(au (aV (i:=1) cN.nd rfl (Or.inl rfl) (fQ ak)) (au (cY PassesOwn.never rfl (cX (cP jC (pV 0) aD (fun _ _=>rfl))) (cT rfl (aG (aB (i:=2) cN.nd rfl (Or.inl rfl)) (aG (aB (i:=3) cN.nd rfl (Or.inl rfl)) (aG (aB (i:=4) cN.nd rfl (Or.inl rfl)) (aG (aB (i:=5) cN.nd rfl (Or.inl rfl)) (aG (aB (i:=6) cN.nd rfl (Or.inl rfl)) bR)))))) (au (aV (i:=7) cN.nd rfl (Or.inl rfl) kO) (aH (cY PassesOwn.never rfl (cX (pV 6)) (aB (i:=8) cN.nd rfl (Or.inl rfl)) (aH (cY PassesOwn.never rfl (fP rfl T.range (aj (aU bT rfl T.len PySem.boot_len (aj (pV 8) ak)) ak)) (aB (i:=9) cN.nd rfl (Or.inl rfl)) (au (kY (cP jC (pV 8) (pV 9) (fun _ _=>rfl)) (cT rfl (aG (aB (i:=10) cN.nd rfl (Or.inl rfl)) (aG (aB (i:=11) cN.nd rfl (Or.inl rfl)) bR)))) (au (gB (j9 PySem.F.plainAttrs_list PySem.F.slot_list_append PySem.F.type_list_append dD (pV 1) (aj (bI (aj (bI (aj gZ (aj (pV 10) ak))) (aj kO (aj (pV 10) (aj (aY jB (pV 11) (pV 4)) ak))))) ak))) (au (gB (j9 PySem.F.plainAttrs_list PySem.F.slot_list_append PySem.F.type_list_append dD (pV 1) (aj (bI (aj (bI (aj gZ (aj (pV 10) ak))) (aj (pV 10) (aj kO (aj (aY jB (pV 3) (pV 11)) ak))))) ak))) (au (eV (rG (uw (pV 7))) (aH (gB (j9 PySem.F.plainAttrs_list PySem.F.slot_list_append PySem.F.type_list_append dD (pV 1) (aj (bI (aj (bI (aj gZ (aj (pV 7) (aj (pV 10) ak)))) (aj (pV 7) (aj (pV 10) (aj aD ak))))) ak)))) bO) (au (aV (i:=7) cN.nd rfl (Or.inl rfl) (pV 10)) (aH (cY PassesOwn.never rfl (cX (gR mK (pV 8) mG (J7 (pV 9)))) (cT rfl (aG (aB (i:=12) cN.nd rfl (Or.inl rfl)) (aG (aB (i:=13) cN.nd rfl (Or.inl rfl)) bR))) (au (gB (j9 PySem.F.plainAttrs_list PySem.F.slot_list_append PySem.F.type_list_append dD (pV 1) (aj (bI (aj (bI (aj gZ (aj (pV 12) (aj (pV 10) ak)))) (aj (pV 12) (aj (pV 10) (aj (aY jB (aY jB (pV 11) (pV 13)) (pV 5)) ak))))) ak))) (aH (gB (j9 PySem.F.plainAttrs_list PySem.F.slot_list_append PySem.F.type_list_append dD (pV 1) (aj (bI (aj (bI (aj gZ (aj (pV 12) (aj (pV 10) ak)))) (aj (pV 10) (aj (pV 12) (aj (aY jB (aY jB (pV 13) (pV 11)) (pV 5)) ak))))) ak)))))))))))))))))) (au (cY PassesOwn.never rfl (fP rfl T.range (aj (aU bT rfl T.len PySem.boot_len (aj (cP jC (pV 0) aD (fun _ _=>rfl)) ak)) ak)) (aB (i:=9) cN.nd rfl (Or.inl rfl)) (au (kY (cP jC (cP jC (pV 0) aD (fun _ _=>rfl)) (pV 9) (fun _ _=>rfl)) (cT rfl (aG (aB (i:=14) cN.nd rfl (Or.inl rfl)) (aG (aB (i:=15) cN.nd rfl (Or.inl rfl)) (aG (aB (i:=16) cN.nd rfl (Or.inl rfl)) (aG (aB (i:=17) cN.nd rfl (Or.inl rfl)) bR)))))) (au (gB (j9 PySem.F.plainAttrs_list PySem.F.slot_list_append PySem.F.type_list_append dD (pV 1) (aj (bI (aj (bI (aj gZ (aj (pV 9) ak))) (aj (pV 14) (aj (pV 15) (aj (pV 16) ak))))) ak))) (aH (eV (rG (uw (pV 17))) (aH (gB (j9 PySem.F.plainAttrs_list PySem.F.slot_list_append PySem.F.type_list_append dD (pV 1) (aj (bI (aj (bI (aj gZ (aj (pV 9) ak))) (aj (pV 15) (aj (pV 14) (aj (aY jB aD (pV 17)) ak))))) ak)))) bO))))) (aH (aZ (pV 1)))))),?_⟩
   obtain ⟨ca,y,z,rfl,hca,hH,hL⟩:=hx
   obtain ⟨cy,vy,rfl,hcy,py⟩:=hH
   obtain ⟨cz,vz,rfl,hcz,pz⟩:=hL
   refine ⟨Nat.zero_le _,fun F hF=>?_⟩
   have L0:SL (Ao hs ls) H F [] (upd H F (.lst [])):=⟨[],aq,.nil,(Same.refl H).upd hF,fun s hs=>by simp at hs⟩
   generalize upd H F (.lst [])=H0 at L0 ⊢
   refine gj (bM.of (L0.same _ _ hca)) (i:=0) (v:=.ref cy) (by rfl) ?_
   refine ⟨cy,rfl,⟨_,bM.of (L0.same _ _ hcy)⟩,gP (xs:=vy) (PS1 (Ao hs ls) (.ref ca) F hs H) ⟨[],none,none,none,none,none,none,none,none,none,none,none,none,none,none,none,none,rfl,L0,Nat.zero_le _,fun h hh=>by simp at hh⟩ (fun i σ H' _ hz=>by obtain ⟨st,_o2,_o3,_o4,_o5,_o6,_o7,Za,Wm,Ds,Uy,Lr,Ls,Lw,Lx,Ly,Lz,_,L,_⟩:=hz; exact bM.of (L.same _ _ hcy)) (fun i v σ H1 hv hz=>?_) (fun σ H1 hz=>?_)⟩
   . obtain ⟨st1,o2,o3,o4,o5,o6,o7,o8,o9,gM,jc,iC,iU,iG,iZ,lZ,mj,rfl,L1,len1,k1⟩:=hz
     obtain ⟨h,hhi,c,bb,rfl,hc,c5,vr,rfl,hc5,pr⟩:=aQ py hv
     have hmem:=List.mem_of_getElem? hhi
     have gd:=gh.all h hmem
     have ilt:i<hs.length:=(List.getElem?_eq_some_iff.mp hhi).1
     have i6:=gh.hi
     have r25:=gd.few
     refine ⟨c,_,rfl,bM.of (L1.same _ _ hc),rfl,_,_,rfl,_,_,rfl,_,_,rfl,_,_,rfl,_,_,rfl,rfl,?_⟩
     refine ⟨c5,rfl,⟨_,bM.of (L1.same _ _ hc5)⟩,gP (xs:=vr) (PS2 (Ao hs ls) (.ref ca) F h (.ref c5) (fun st=>∀ h'∈hs.take i,kJ h' st) (i * 33125) H) ⟨st1,_,_,_,_,_,_,_,_,_,_,rfl,L1,by omega,k1,fun r hr=>by simp at hr,fun pre post a b e=>by simp at e,fun r hr=>by simp at hr⟩ (fun j σ H' _ hz=>by obtain ⟨st,Za,Wm,Ds,Uy,Lr,Ls,Lw,Lx,Ly,Lz,_,L,_⟩:=hz; exact bM.of (L.same _ _ hc5)) (fun j v8 σ H2 hv8 hz=>?_) (fun σ H2 hz=>?_)⟩
     . obtain ⟨st2,o8,o9,gM,jc,iC,iU,iG,iZ,lZ,mj,rfl,L2,len2,p2,row2,UL,UW⟩:=hz
       obtain ⟨rs,hrs,c8,ws,rfl,Zd,pw⟩:=aQ pr hv8
       have wM:=List.mem_of_getElem? hrs
       have gr:=gd.runs rs wM
       have lw:=pw.length
       have few:=gr.few
       have jlt:j<h.runs.length:=(List.getElem?_eq_some_iff.mp hrs).1
       refine ⟨c8,ws,rfl,.inr (bM.of (L2.same _ _ Zd)),?_⟩
       refine ⟨(ws.length:Int),rfl,by omega,by omega,iz (lo:=0) (n:=(ws.length:Int).toNat) (PS3 (Ao hs ls) (.ref ca) F h (.ref c5) (.ref c8) (h.runs.take j).flatten rs (fun st=>(∀ h'∈hs.take i,kJ h' st)/\∀ r∈h.runs.take j,jM h.aK r st) (i * 33125+j * 1325) H) ⟨st2,_,_,_,_,_,_,_,_,_,by rw [List.take_zero,List.append_nil]; rfl,L2,by omega,⟨p2,UW⟩,by rw [List.take_zero,List.append_nil]; exact row2,by rw [List.take_zero,List.append_nil]; exact UL,fun i k q r lt e1=>by simp at e1⟩ (fun k σ H3 hk hz=>?_) (fun σ H3 hz=>?_)⟩
       . obtain ⟨st3,o9,gM,jc,iC,iU,iG,iZ,lZ,mj,rfl,L3,agp,p3,U0,U7,U8⟩:=hz
         have hk':k<ws.length:=by omega
         obtain ⟨vk,hvk⟩:∃ v,ws[k]?=some v:=⟨_,List.getElem?_eq_getElem hk'⟩
         obtain ⟨r,hrk,cr,rfl,hcr⟩:=aQ pw hvk
         have hrm:=List.mem_of_getElem? hrk
         have inh:r∈bL h:=List.mem_flatten.mpr ⟨rs,wM,hrm⟩
         have UG:∃ post,bL h=((h.runs.take j).flatten++rs.take k)++(r :: post):=by
           refine ⟨rs.drop (k+1)++(h.runs.drop (j+1)).flatten,?_⟩
           have e1:h.runs=h.runs.take j++(rs :: h.runs.drop (j+1)):=by
             obtain ⟨li,fi⟩:=List.getElem?_eq_some_iff.mp hrs
             rw [<- fi,List.getElem_cons_drop,List.take_append_drop]
           have e2:rs=rs.take k++(r :: rs.drop (k+1)):=by
             obtain ⟨li,fi⟩:=List.getElem?_eq_some_iff.mp hrk
             rw [<- fi,List.getElem_cons_drop,List.take_append_drop]
           unfold bL
           conv=>lhs; rw [e1]
           rw [List.flatten_append,List.flatten_cons]
           conv=>lhs; rw [e2]
           simp only [List.append_assoc,List.cons_append]
         have gn:∀ {H':Hp},bA H' (.str r.1) (.str r.1):=(gr.names r hrm).da
         have Gs:rs.take (k+1)=rs.take k++[r]:=by rw [List.take_add_one,hrk]; rfl
         have ens:((h.runs.take j).flatten++rs.take (k+1)).map Prod.fst=((h.runs.take j).flatten++rs.take k).map Prod.fst++[r.1]:=by
           rw [Gs,<- List.append_assoc,List.map_append]; rfl
         refine gj (bM.of (L3.same _ _ Zd)) (i:=0+(k:Int)) (v:=.ref cr) (by rw [Int.zero_add]; exact gQ hvk) ?_
         refine ⟨cr,_,rfl,bM.of (L3.same _ _ hcr),rfl,_,_,rfl,_,_,rfl,rfl,?_⟩
         dsimp only
         refine uL (s:=(_,none,some r.1,r.2-h.high)) hF rfl L3 (by omega) (Ji hmem inh _ .non).1 (bN (ao (bN (ao (jh (by decide +kernel)) (ao (lB gn) aW)) (by exact Nat.le_of_ble_eq_true rfl)) (ao vD (ao (lB gn) (ao (oJ (rR (.int _)) (Ck (.int _))) aW)))) (by exact Nat.le_of_ble_eq_true rfl)) fun H4 _ L4=>?_
         refine uL (s:=(_,some r.1,none,h.low-r.2)) hF rfl L4 (by rw [List.length_append]; show _+1<=_; omega) (Ji hmem inh .non _).2 (bN (ao (bN (ao (jh (by decide +kernel)) (ao (lB gn) aW)) (by exact Nat.le_of_ble_eq_true rfl)) (ao (lB gn) (ao vD (ao (oJ (qW (.int _)) (rR (.int _))) aW)))) (by exact Nat.le_of_ble_eq_true rfl)) fun H5 _ L5=>?_
         have Zf:∀ P:List Step->Prop,wN P->P st3->∀ ex,P ((st3++[(Da.tup [.str "early",.str r.1],none,some r.1,r.2-h.high)]++[(Da.tup [.str "late",.str r.1],some r.1,none,h.low-r.2)])++ex):=fun P mP p ex=>mP _ ex (mP _ _ (mP _ _ p))
         have Zg:∀ ex,yr h r ((st3++[(Da.tup [.str "early",.str r.1],none,some r.1,r.2-h.high)]++[(Da.tup [.str "late",.str r.1],some r.1,none,h.low-r.2)])++ex):=fun ex=>rB h r _ ex ⟨(uc.last _ _ _ _ _).mono _,uc.last _ _ _ _ _⟩
         have abW:(st3++[(Da.tup [.str "early",.str r.1],none,some r.1,r.2-h.high)]++[(Da.tup [.str "late",.str r.1],some r.1,none,h.low-r.2)]).length=st3.length+2:=by simp
         have L5':SL (Ao hs ls) H F (st3++[(Da.tup [.str "early",.str r.1],none,some r.1,r.2-h.high)]++[(Da.tup [.str "late",.str r.1],some r.1,none,h.low-r.2)]) H5:=L5
         clear L5
         generalize st3++[(Da.tup [.str "early",.str r.1],none,some r.1,r.2-h.high)]++[(Da.tup [.str "late",.str r.1],some r.1,none,h.low-r.2)]=RQ at Zf Zg abW L5'
         refine mQ (fun σ' H'=>∃ (L:V) (ex:List Step),σ'=[some (.ref ca),some (.ref F),some (.str h.name),some (.int h.low),some (.int h.high),some (.int h.aK),some (.ref c5),some L,some (.ref c8),some (.int (0+(k:Int))),some (.str r.1),some (.int r.2),iC,iU,iG,iZ,lZ,mj]/\SL (Ao hs ls) H F (RQ++ex) H'/\ex.length<=1/\∀ a,(((h.runs.take j).flatten++rs.take k).map Prod.fst).getLast?=some a->uc (some a) (some r.1) 1 (RQ++ex)) (fun U hU=>?_) (fun σ' H' hN=>?_)
         . refine ⟨_,rfl,?_⟩
           cases Gu:(((h.runs.take j).flatten++rs.take k).map Prod.fst).getLast? with
           | none =>
             have eL:kI (((h.runs.take j).flatten++rs.take k).map Prod.fst)=.non:=by unfold kI; rw [Gu]
             rw [eL]
             exact hU _ _ ⟨.non,[],rfl,by rw [List.append_nil]; exact L5',Nat.zero_le _,fun a e=>by rw [Gu] at e; cases e⟩
           | some b =>
             have eL:kI (((h.runs.take j).flatten++rs.take k).map Prod.fst)=.str b:=by unfold kI; rw [Gu]
             rw [eL]
             have gb:∀ {H':Hp},bA H' (.str b) (.str b):=by
               intro H'
               obtain ⟨r',hr',rfl⟩:=List.mem_map.mp (List.mem_of_getLast? Gu)
               have hin:r'∈bL h:=by
                 rcases List.mem_append.mp hr' with z | z
                 . obtain ⟨q',hq',hr2⟩:=List.mem_flatten.mp z
                   exact List.mem_flatten.mpr ⟨q',List.mem_of_mem_take hq',hr2⟩
                 . exact List.mem_flatten.mpr ⟨rs,wM,List.mem_of_mem_take z⟩
               obtain ⟨q',hq',hr2⟩:=List.mem_flatten.mp hin
               exact ((gd.runs q' hq').names r' hr2).da
             refine zY (s:=(_,some b,some r.1,1)) hF rfl L5' (by omega) (by obtain ⟨post,ep⟩:=UG; exact QV hmem ep Gu _) (bN (ao (bN (ao (jh (by decide +kernel)) (ao (Cp gb) (ao (lB gn) aW))) (by exact Nat.le_of_ble_eq_true rfl)) (ao (Cp gb) (ao (lB gn) (ao dY aW)))) (by exact Nat.le_of_ble_eq_true rfl)) fun H6 _ L6=>?_
             exact hU _ _ ⟨.str b,_,rfl,L6,Nat.le_refl _,fun a e=>by rw [Gu] at e; cases e; exact uc.last _ _ _ _ _⟩
         . obtain ⟨L,ex,rfl,L6,lex,nxt⟩:=hN
           have LK:∀ P:List Step->Prop,wN P->P st3->P (RQ++ex):=fun P mP p=>Zf P mP p ex
           have abX:=Zg ex
           have agq:(RQ++ex).length<=st3.length+3:=by rw [List.length_append]; omega
           clear Zf Zg abW L5'
           generalize RQ++ex=RD at LK abX agq L6 nxt
           refine ⟨⟨c8,ws,rfl,L6.same _ _ Zd,fun p H7 ep s7=>?_⟩⟩
           rw [Int.zero_add,QS (by omega)] at ep
           have L7:=L6.more s7
           have agr:(P6 hs h i j k rs) RD:=by
             refine ⟨⟨fun h' hh'=>LK _ (qz h') (p3.1 h' hh'),fun r' hr'=>LK _ (jY _ r') (p3.2 r' hr')⟩,fun r' hr'=>?_,?_,LK _ (jY _ _) U8⟩
             . rw [Gs,<- List.append_assoc] at hr'
               rcases List.mem_append.mp hr' with z | z
               . exact LK _ (rB h r') (U0 r' z)
               . rw [List.mem_singleton.mp z]; exact abX
             . rw [ens]
               exact Gv (LK _ (wB _) U7) nxt
           have abY:wN (P6 hs h i j k rs):=fun _ ex p=>⟨⟨fun h' hh'=>qz h' _ ex (p.1.1 h' hh'),fun r' hr'=>jY _ r' _ ex (p.1.2 r' hr')⟩,fun r' hr'=>rB h r' _ ex (p.2.1 r' hr'),wB _ _ ex p.2.2.1,jY _ _ _ ex p.2.2.2⟩
           refine ⟨p,rfl,⟨_,bM.of ep⟩,gP (xs:=ws.take k) (PS4 (Ao hs ls) (.ref ca) F h (.ref c5) (.ref c8) k r rs (P6 hs h i j k rs) (i * 33125+j * 1325+k * 53+3) H H7) ⟨RD,_,_,_,_,_,_,rfl,L7,fun _ _ e=>e,by omega,agr,fun q hq=>by simp at hq⟩ (fun t σ H' _ hz=>?_) (fun t v σ H8 hv hz=>?_) (fun σ H8 hz=>?_)⟩
           . obtain ⟨st,Lr,Ls,Lw,Lx,Ly,Lz,_,_,s',_⟩:=hz
             exact bM.of (s' _ _ ep)
           . obtain ⟨st8,iC,iU,iG,iZ,lZ,mj,rfl,L8,s8,ags,LQ,pk⟩:=hz
             have lt:t<k:=by
               have z:=(List.getElem?_eq_some_iff.mp hv).1
               rw [List.length_take] at z
               omega
             rw [List.getElem?_take_of_lt lt] at hv
             obtain ⟨q',hqt,cq,rfl,hcq⟩:=aQ pw hv
             have hqm:=List.mem_of_getElem? hqt
             have gq:∀ {H':Hp},bA H' (.str q'.1) (.str q'.1):=(gr.names q' hqm).da
             refine ⟨cq,_,rfl,bM.of (L8.same _ _ hcq),rfl,_,_,rfl,_,_,rfl,rfl,?_⟩
             refine uL (s:=(_,some q'.1,some r.1,r.2-q'.2-h.aK)) hF rfl L8 (by omega) (Du hmem wM hqm hrm _) (bN (ao (bN (ao (jh (by decide +kernel)) (ao (zE gq) (ao (lB gn) aW))) (by exact Nat.le_of_ble_eq_true rfl)) (ao (zE gq) (ao (lB gn) (ao (oJ (oJ (rR (.int _)) (Pj (.int _))) (Cm (.int _))) aW)))) (by exact Nat.le_of_ble_eq_true rfl)) fun H9 t9 L9=>?_
             refine zY (s:=(_,some r.1,some q'.1,q'.2-r.2-h.aK)) hF rfl L9 (by rw [List.length_append]; show _+1<=_; omega) (Du hmem wM hrm hqm _) (bN (ao (bN (ao (jh (by decide +kernel)) (ao (zE gq) (ao (lB gn) aW))) (by exact Nat.le_of_ble_eq_true rfl)) (ao (lB gn) (ao (zE gq) (ao (oJ (oJ (Pj (.int _)) (rR (.int _))) (Cm (.int _))) aW)))) (by exact Nat.le_of_ble_eq_true rfl)) fun DW t10 L10=>?_
             refine ⟨_,_,_,_,_,_,_,rfl,L10,?_,by rw [List.length_append,List.length_append]; show _+1+1<=_; omega,abY _ _ (abY _ _ LQ),fun q2 hq2=>?_⟩
             . exact fun b xs e=>t10 _ _ (t9 _ _ (s8 _ _ e))
             . have e5:(rs.take k)[t]?=some q':=by rw [List.getElem?_take_of_lt lt]; exact hqt
               rw [List.take_add_one,e5] at hq2
               rcases List.mem_append.mp hq2 with z | z
               . exact sJ _ _ _ _ _ (sJ _ _ _ _ _ (pk q2 z))
               . rw [show q2=q' from by simpa using z]
                 exact ⟨(uc.last _ _ _ _ _).mono _,uc.last _ _ _ _ _⟩
           . obtain ⟨st8,iC,iU,iG,iZ,lZ,mj,rfl,L8,s8,ags,LQ,pk⟩:=hz
             have e5:(rs.take k).take (ws.take k).length=rs.take k:=List.take_of_length_le (by rw [List.length_take,List.length_take]; omega)
             rw [e5] at pk
             have l5:(ws.take k).length<=25:=by rw [List.length_take]; omega
             refine ⟨st8,_,_,_,_,_,_,_,_,_,by rw [ens,wu],L8,by omega,LQ.1,LQ.2.1,LQ.2.2.1,?_⟩
             rw [Gs]
             exact Ab LQ.2.2.2 pk
       . obtain ⟨st3,o9,gM,jc,iC,iU,iG,iZ,lZ,mj,rfl,L3,agp,p3,U0,U7,U8⟩:=hz
         have e1:rs.take (ws.length:Int).toNat=rs:=List.take_of_length_le (by omega)
         rw [e1] at U0 U7 U8
         have e2:(h.runs.take (j+1))=h.runs.take j++[rs]:=by rw [List.take_add_one,hrs]; rfl
         have e3:(h.runs.take (j+1)).flatten=(h.runs.take j).flatten++rs:=by rw [e2,List.flatten_append]; simp
         refine ⟨st3,_,_,_,_,_,_,_,_,_,_,by rw [e1,e3],L3,by omega,p3.1,by rw [e3]; exact U0,by rw [e3]; exact U7,fun r hr=>?_⟩
         rw [e2] at hr
         rcases List.mem_append.mp hr with z | z
         . exact p3.2 r z
         . rw [List.mem_singleton.mp z]; exact U8
     . obtain ⟨st2,o8,o9,gM,jc,iC,iU,iG,iZ,lZ,mj,rfl,L2,len2,p2,row2,UL,UW⟩:=hz
       have lr:=pr.length
       have e1:h.runs.take vr.length=h.runs:=List.take_of_length_le (by omega)
       rw [e1] at row2 UL UW
       refine ⟨st2,_,_,_,_,_,_,_,_,_,_,_,_,_,_,_,_,rfl,L2,by omega,fun k hk=>?_⟩
       rw [List.take_add_one,hhi] at hk
       rcases List.mem_append.mp hk with z | z
       . exact p2 k z
       . rw [show k=h from by simpa using z]
         exact ⟨row2,UL,UW⟩
   . obtain ⟨st1,o2,o3,o4,o5,o6,o7,o8,o9,gM,jc,iC,iU,iG,iZ,lZ,mj,rfl,L1,len1,k1⟩:=hz
     have ly:=py.length
     have i6:=gh.hi
     have e1:hs.take vy.length=hs:=List.take_of_length_le (by omega)
     rw [e1] at k1
     refine gj (bM.of (L1.same _ _ hca)) (i:=1) (v:=.ref cz) (by rfl) ?_
     refine ⟨cz,vz,rfl,.inr (bM.of (L1.same _ _ hcz)),?_⟩
     have lz:=pz.length
     have Wj:=gl.few
     refine ⟨(vz.length:Int),rfl,by omega,by omega,iz (lo:=0) (n:=(vz.length:Int).toNat) (PS5 (Ao hs ls) (.ref ca) F ls (fun st=>∀ h∈hs,kJ h st) (6 * 33125) H) ⟨st1,_,_,_,_,_,_,_,_,_,_,_,_,_,_,_,_,rfl,L1,by omega,k1,fun l hl=>by simp at hl⟩ (fun k σ H2 hk hz=>?_) (fun σ H2 hz=>?_)⟩
     . obtain ⟨st2,o2,o3,o4,o5,o6,o7,o8,o9,gM,jc,iC,iU,iG,iZ,lZ,mj,rfl,L2,len2,p2,k2⟩:=hz
       have hk':k<vz.length:=by omega
       obtain ⟨vk,hvk⟩:∃ v,vz[k]?=some v:=⟨_,List.getElem?_eq_getElem hk'⟩
       obtain ⟨l,hli,cl,rfl,hcl⟩:=aQ pz hvk
       have hmem:=List.mem_of_getElem? hli
       have gs:∀ {H':Hp},bA H' (.str l.1.1) (.str l.1.1):=(gl.all l hmem).sent.da
       have gt:∀ {H':Hp},bA H' (.str l.1.2) (.str l.1.2):=(gl.all l hmem).taken.da
       refine gj (bM.of (L2.same _ _ hca)) (i:=1) (v:=.ref cz) (by rfl) ?_
       refine gj (bM.of (L2.same _ _ hcz)) (i:=0+(k:Int)) (v:=.ref cl) (by rw [Int.zero_add]; exact gQ hvk) ?_
       refine ⟨cl,_,rfl,bM.of (L2.same _ _ hcl),rfl,_,_,rfl,_,_,rfl,_,_,rfl,_,_,rfl,rfl,?_⟩
       dsimp only
       refine uL (s:=(_,some l.1.1,some l.1.2,l.2.1)) hF rfl L2 (by omega) (wC hmem _).1 (bN (ao (bN (ao (jh (by decide +kernel)) (ao (tO (.int _)) aW)) (by exact Nat.le_of_ble_eq_true rfl)) (ao (Pk gs) (ao (Pn gt) (ao (oH (k:=16) rfl (.int _)) aW)))) (by exact Nat.le_of_ble_eq_true rfl)) fun H3 _ L3=>?_
       have fin:∀ (st:List Step) (H':Hp),SL (Ao hs ls) H F st H'->(∀ P:List Step->Prop,wN P->P st2->P st)->st.length<=st2.length+2->rA l st->PS5 (Ao hs ls) (.ref ca) F ls (fun st=>∀ h∈hs,kJ h st) (6 * 33125) H (k+1) [some (.ref ca),some (.ref F),o2,o3,o4,o5,o6,o7,o8,some (.int (0+(k:Int))),gM,jc,iC,iU,some (.str l.1.1),some (.str l.1.2),some (.int l.2.1),some (oE l.2.2)] H':=fun st H' LL mm ln li=>by
         refine ⟨st,_,_,_,_,_,_,_,_,_,_,_,_,_,_,_,_,rfl,LL,by omega,fun h hh=>mm _ (qz h) (p2 h hh),fun l' hl'=>?_⟩
         rw [List.take_add_one,hli] at hl'
         rcases List.mem_append.mp hl' with z | z
         . exact mm _ (Dt l') (k2 l' z)
         . rw [show l'=l from by simpa using z]; exact li
       obtain ⟨⟨se,ta⟩,le,mst⟩:=l
       cases mst with
       | none =>
         refine ⟨_,rfl,?_⟩
         exact fin _ _ L3 (fun P mP p=>mP _ _ p) (by rw [List.length_append]; show _+1<=_; omega) ⟨uc.last _ _ _ _ _,fun z e=>by cases e⟩
       | some y =>
         refine ⟨_,rfl,?_⟩
         refine zY (s:=(_,some ta,some se,0-y)) hF rfl L3 (by rw [List.length_append]; show _+1<=_; omega) ((wC hmem _).2 y rfl) (bN (ao (bN (ao (jh (by decide +kernel)) (ao (tO (.int _)) aW)) (by exact Nat.le_of_ble_eq_true rfl)) (ao (Pn gt) (ao (Pk gs) (ao (oJ dY (oH (k:=17) rfl (.int _))) aW)))) (by exact Nat.le_of_ble_eq_true rfl)) fun H4 _ L4=>?_
         exact fin _ _ L4 (fun P mP p=>mP _ _ (mP _ _ p)) (by rw [List.length_append,List.length_append]; show _+1+1<=_; omega) ⟨(uc.last _ _ _ _ _).mono _,fun z e=>by cases e; exact uc.last _ _ _ _ _⟩
     . obtain ⟨st2,o2,o3,o4,o5,o6,o7,o8,o9,gM,jc,iC,iU,iG,iZ,lZ,mj,rfl,L2,len2,p2,k2⟩:=hz
       have e2:ls.take (vz.length:Int).toNat=ls:=List.take_of_length_le (by omega)
       rw [e2] at k2
       exact q F st2 H2 hF L2 ⟨p2,k2⟩ (by omega)
end
end mW
namespace mW
open PySem L2 gY
def pk:Option Str->Key
 | none=>.inl none
 | some n=>.inr n
theorem Wn (p:Option Str):kV (pk p)=iY p:=by cases p <;> rfl
theorem QX {p q:Option Str} (h:pk p=pk q):p=q:=by
 cases p <;> cases q <;> first | rfl | (cases h; rfl) | cases h
abbrev PD:=Fw.D (Option Str)
def DT (H:Hp) (F:Addr) (d:PD) (n:Nat):Prop:=∃ kvs:List (List Key × V),H F=some (.dT kvs)/\(∀ p q,dW kvs [pk p,pk q]=(d p q).map V.int)/\kvs.length<=n
theorem DT.same {H H':Hp} {F:Addr} {d:PD} {n:Nat} (h:DT H F d n) (s:Same H H'):DT H' F d n:=let ⟨k,e,v,l⟩:=h; ⟨k,s _ _ e,v,l⟩
theorem DT.le {H:Hp} {F:Addr} {d:PD} {n m:Nat} (h:DT H F d n) (s:n<=m):DT H F d m:=let ⟨k,e,v,l⟩:=h; ⟨k,e,v,Nat.le_trans l s⟩
theorem DT.get {H:Hp} {F b:Addr} {d:PD} {n:Nat} {p q:Option Str} (h:DT H F d n) (eb:H b=some (.tup [iY p,iY q])):mH H F (.ref b) ((d p q).map V.int):=by
 obtain ⟨k,e,v,_⟩:=h
 rw [<- v p q]
 exact mH.t (k:=[pk p,pk q]) e (by rw [eb]; simp [Wn])
theorem DT.put {H:Hp} {F b:Addr} {d:PD} {n:Nat} {p q:Option Str} {x:Int} (h:DT H F d n) (eb:H b=some (.tup [iY p,iY q])) (hn:n<sizeLine) :
   ∃ H',uf H F (.ref b) (.int x) H'/\DT H' F (Fw.put d p q x) (n+1)/\∀ c,c≠F->H' c=H c:=by
 obtain ⟨k,e,v,l⟩:=h
 refine ⟨_,uf.t (k:=[pk p,pk q]) e (by rw [eb]; simp [Wn]) (Nat.lt_of_le_of_lt l hn),⟨_,aq,fun p' q'=>?_,Nat.le_trans (fY _ _ _) (Nat.succ_le_succ l)⟩,fun c hc=>aL hc⟩
 rw [qJ]
 unfold Fw.put
 by_cases z:p'=p/\q'=q
 . rw [if_pos (by rw [z.1,z.2]),if_pos z]; rfl
 . rw [if_neg (fun w=>z ?_),if_neg z]
   . exact v p' q'
   . have w':=List.cons.inj w
     exact ⟨QX w'.1,QX (List.cons.inj w'.2).1⟩
theorem oX {ta:TE} {tr:TA} {σ:St} {H:Hp} {Q:List V->Hp->Prop}:cj ta tr σ H Q=ta σ H fun x H1=>tr σ H1 fun xs H2=>Q (x :: xs) H2:=rfl
section
variable {σ:St} {H H0:Hp} {f i j g:Nat} {F:Addr} {d:PD} {n:Nat} {p q:Option Str} {x z:Int} {Q:VK} {E:Ends}
theorem tk {v u:V} (e1:σ[i]?=some (some v)) (e2:σ[j]?=some (some u)) (k:∀ b H',H b=none->Same H H'->H' b=some (.tup [v,u])->Q (.ref b) H'):mF (cj (tV i) (cj (tV j) iI)) σ H Q:=by
 unfold mF cj tV
 rw [e1,e2]
 exact ⟨by show 2<=sizeLine; rw [sizeLine_eq]; decide,fun p hp=>k p _ hp ((Same.refl H).upd hp) aq⟩
theorem QZ (e0:σ[f]?=some (some (.ref F))) (e1:σ[i]?=some (some (iY p))) (e2:σ[j]?=some (some (iY q))) (D:DT H F d n) (h:d p q=some x) (k:∀ H',Same H H'->DT H' F d n->Q (.int x) H') :
   xr (tV f) (mF (cj (tV i) (cj (tV j) iI))) σ H Q:=by
 show tV f σ H _
 unfold tV
 rw [e0]
 refine tk e1 e2 fun b H' _ s eb=>⟨F,.int x,rfl,?_,k H' s (D.same s)⟩
 have z:=(D.same s).get eb
 rw [h] at z
 exact z
theorem Wo (e0:σ[f]?=some (some (.ref F))) (e1:σ[i]?=some (some (iY p))) (e2:σ[j]?=some (some (iY q))) (D:DT H F d n) (k:∀ H',Same H H'->DT H' F d n->Q (.bl (d p q).isSome) H') :
   R9 (mF (cj (tV i) (cj (tV j) iI))) (tV f) σ H Q:=by
 refine tk e1 e2 fun b H' _ s eb=>?_
 unfold tV
 rw [e0]
 refine ⟨F,_,rfl,(D.same s).get eb,?_⟩
 rw [Option.isSome_map]
 exact k H' s (D.same s)
theorem Zh {m:Nat} {r:Option Str} {t:TS} (e0:σ[f]?=some (some (.ref F))) (e1:σ[i]?=some (some (iY p))) (e2:σ[m]?=some (some (iY r))) (e3:σ[j]?=some (some (iY q))) (D:DT H F d n)
   (h1:(d p r=none∨d r q=none)->∀ H',Same H H'->DT H' F d n->E.nx σ H') (h2:∀ x1 x2,d p r=some x1->d r q=some x2->∀ H',Same H H'->DT H' F d n->t E σ H') :
   Ec (Jz (tB (R9 (mF (cj (tV i) (cj (tV m) iI))) (tV f))) (tB (R9 (mF (cj (tV m) (cj (tV j) iI))) (tV f)))) t Hr E σ H:=by
 unfold Ec Jz tB
 refine Wo e0 e1 e2 D fun H1 s1 D1=>⟨_,rfl,?_⟩
 cases a1:d p r with
 | none=>exact h1 (.inl a1) H1 s1 D1
 | some x1 =>
   rw [show (some x1).isSome=true from rfl,if_pos rfl]
   refine Wo e0 e2 e3 D1 fun H2 s2 D2=>⟨_,rfl,?_⟩
   cases a2:d r q with
   | none=>exact h1 (.inr a2) H2 (s1.trans s2) D2
   | some x2=>exact h2 x1 x2 a1 a2 H2 (s1.trans s2) D2
theorem Zi {m:Nat} {r:Option Str} {u:TS} {x1 x2:Int} (e0:σ[f]?=some (some (.ref F))) (e1:σ[i]?=some (some (iY p))) (e2:σ[m]?=some (some (iY r))) (e3:σ[j]?=some (some (iY q))) (D:DT H F d n) (a1:d p r=some x1) (a2:d r q=some x2)
   (k:∀ H',Same H H'->DT H' F d n->u E (σ.set g (some (.int (x1+x2)))) H') :
   nA (nJ (wQ (fI fun i j=>.int (i+j)) (xr (tV f) (mF (cj (tV i) (cj (tV m) iI)))) (xr (tV f) (mF (cj (tV m) (cj (tV j) iI))))) (jE g)) u E σ H:=by
 unfold nA nJ wQ
 refine QZ e0 e1 e2 D a1 fun H1 s1 D1=>?_
 refine QZ e0 e2 e3 D1 a2 fun H2 s2 D2=>?_
 exact k H2 (s1.trans s2) D2
theorem Q0 (e0:σ[f]?=some (some (.ref F))) (e1:σ[i]?=some (some (iY p))) (e2:σ[j]?=some (some (iY q))) (e3:σ[g]?=some (some (.int z))) (hF:H0 F=none) (S:Same H0 H) (D:DT H F d n) (hn:n<sizeLine)
   (k:∀ H',Same H0 H'->DT H' F (Fw.put d p q (if z > (d p q).getD z then z else (d p q).getD z)) (n+1)->E.nx σ H') :
   HF (tV f) (mF (cj (tV i) (cj (tV j) iI))) (RZ (fun xs H Q=>∃ i j,xs=[.int i,.int j]/\Q (.int (if j > i then j else i)) H) (cj (uU (tV f) (mF (cj (tV i) (cj (tV j) iI))) (tV g)) (cj (tV g) iI))) E σ H:=by
 unfold HF RZ
 rw [oX]
 unfold uU
 have eg:∀ (H':Hp) (Q':VK),Q' (.int z) H'->tV g σ H' Q':=fun H' Q' h=>by unfold tV; rw [e3]; exact h
 have ef:∀ (H':Hp) (Q':VK),Q' (.ref F) H'->tV f σ H' Q':=fun H' Q' h=>by unfold tV; rw [e0]; exact h
 refine ef _ _ ⟨F,rfl,?_,tk e1 e2 fun b H1 _ s1 eb=>eg _ _ ⟨_,(D.same s1).get eb,?_⟩⟩
 . obtain ⟨kv,e,_⟩:=D
   exact .inr ⟨kv,.inl e⟩
 . refine eg _ _ ⟨(d p q).getD z,z,?_,ef _ _ (tk e1 e2 fun b2 H2 _ s2 eb2=>?_)⟩
   . cases d p q <;> rfl
   . obtain ⟨H3,dp,dt,oth⟩:=((D.same s1).same s2).put (x:=if z > (d p q).getD z then z else (d p q).getD z) eb2 hn
     refine ⟨F,H3,rfl,dp,k H3 (fun c o e=>?_) dt⟩
     rw [oth c (fun w=>by rw [w,hF] at e; cases e)]
     exact s2 _ _ (s1 _ _ (S _ _ e))
end
def Dv (st:List Step) (d:PD):Prop:=∀ s∈st,∃ x,d s.2.1 s.2.2.1=some x/\s.2.2.2<=x
def Q5 (st:List Step) (d:PD):Prop:=∀ p q x,d p q=some x->uc p q x st
section
variable {B:Option Str->Option Str->Int->Prop} (tr:∀ p q r x y,B p q x->B q r y->B p r (x+y))
include tr
theorem LR {d:PD} (h:∀ p q x,d p q=some x->B p q x) (m i j:Option Str):∀ p q x,Fw.relax m i j d p q=some x->B p q x:=by
 intro p q x e
 rw [Fw.CJ] at e
 by_cases c:p=i/\q=j
 . have e':Fw.via m d i j=some x:=by simpa [c] using e
   rw [c.1,c.2]
   rcases Fw.pI e' with z | ⟨a,b,h1,h2,rfl⟩
   . exact h _ _ _ z
   . exact tr _ _ _ _ _ (h _ _ _ h1) (h _ _ _ h2)
 . have e':d p q=some x:=by simpa [c] using e
   exact h _ _ _ e'
theorem Jj (m i:Option Str):∀ (js:List (Option Str)) {d:PD},(∀ p q x,d p q=some x->B p q x)->∀ p q x,Fw.row m i js d p q=some x->B p q x
 | [],_,h=>h
 | j :: js,_,h=>Jj m i js (LR tr h m i j)
theorem Dw (m:Option Str) (js:List (Option Str)):∀ (is:List (Option Str)) {d:PD},(∀ p q x,d p q=some x->B p q x)->∀ p q x,Fw.turn m is js d p q=some x->B p q x
 | [],_,h=>h
 | i :: is,_,h=>Dw m js is (Jj tr m i js h)
theorem Jk (ps:List (Option Str)):∀ (ms:List (Option Str)) {d:PD},(∀ p q x,d p q=some x->B p q x)->∀ p q x,Fw.fw ms ps d p q=some x->B p q x
 | [],_,h=>h
 | m :: ms,_,h=>Jk ps ms (Dw tr m ps ps h)
end
def Gw:Sp:=fun vs H Q _=>∃ (l lp:Addr) (ws:List V) (st:List Step) (fZ:List (Option Str)),vs=[.ref l,.ref lp]/\H l=some (.lst ws)/\bH H ws (st.map wz)/\H lp=some (.lst (fZ.map iY))/\st.length<=1000000/\fZ.length<=25 /\
 ∀ (F:Addr) (d0:PD) (H':Hp),H F=none->DT H' F (Fw.fw fZ fZ d0) 2000000->Dv st d0->Q5 st d0->Same H H'->Q (.ref F) H'
def PU1 (l lp F:Addr) (st:List Step) (H:Hp):Nat->St->Hp->Prop:=fun i σ H'=>∃ (d:PD) (o3 o4 o5 o6 o7 o8 o9 gM:Option V),σ=[some (.ref l),some (.ref lp),some (.ref F),o3,o4,o5,o6,o7,o8,o9,gM]/\DT H' F d i/\Same H H'/\Dv (st.take i) d/\Q5 (st.take i) d
def PU2 (l lp F:Addr) (fZ:List (Option Str)) (d0:PD) (H:Hp):Nat->St->Hp->Prop:=fun i σ H'=>∃ (o3 o4 o5 o6 o7 o8 o9 gM:Option V),σ=[some (.ref l),some (.ref lp),some (.ref F),o3,o4,o5,o6,o7,o8,o9,gM]/\DT H' F (Fw.fw (fZ.take i) fZ d0) (1000000+i * 625)/\Same H H'
def PU3 (l lp F:Addr) (fZ:List (Option Str)) (m:Option Str) (B:Nat) (d0:PD) (H:Hp):Nat->St->Hp->Prop:=fun i σ H'=>∃ (o3 o4 o5 o6 o8 o9 gM:Option V),σ=[some (.ref l),some (.ref lp),some (.ref F),o3,o4,o5,o6,some (iY m),o8,o9,gM]/\DT H' F (Fw.turn m (fZ.take i) fZ d0) (B+i * 25)/\Same H H'
def PU4 (l lp F:Addr) (fZ:List (Option Str)) (m a:Option Str) (B:Nat) (d0:PD) (H:Hp):Nat->St->Hp->Prop:=fun i σ H'=>∃ (o3 o4 o5 o6 o9 gM:Option V),σ=[some (.ref l),some (.ref lp),some (.ref F),o3,o4,o5,o6,some (iY m),some (iY a),o9,gM]/\DT H' F (Fw.row m a (fZ.take i) d0) (B+i)/\Same H H'
theorem Jl {H:Hp} {v:V}:∀ {p:Option Str},bA H v (Ze p)->v=iY p
 | none,h=>by cases h; rfl
 | some n,h=>by cases h; rfl
theorem step_at {H:Hp} {v:V} {s:Step} (h:bA H v (wz s)):∃ a b,v=.ref a/\H a=some (.tup [b,iY s.2.1,iY s.2.2.1,.int s.2.2.2]):=by
 obtain ⟨a,vs,rfl,e,_,r⟩:=h.iw
 obtain ⟨v1,v2,v3,v4,rfl,h1,h2,h3,h4⟩:=r.four
 cases h4
 rw [Jl h2,Jl h3] at e
 exact ⟨a,v1,rfl,e⟩
section
variable {P:Program} {w:World} {K:PySem.W.Frag} {mg:Str->Option Value} {base:Heap} {t8:Tok}
theorem jx:bG ["_law_steps_here","_law_points","_law_found","_law_bound","_law_begin","_law_end","_law_more","_law_middle","_law_one","_law_other","_law_total"] ["_law_steps_here","_law_points"] (aA xX):=⟨rfl,rfl,rfl,by decide +kernel,rfl,by decide +kernel,by decide +kernel⟩
theorem U9 {f:Addr} {fd:FuncData} (F:nG K "_law_sums" "_law_sums" xX f fd) (T:Txt mg t8):aX P w K mg base dM 1 f fd ["_law_steps_here","_law_points"] Gw:=by
 refine F.ok jx (fun vs H Q E h=>?_) (fun cdv A outer s H vs Q E hr h=>?_)
 . obtain ⟨l,lp,ws,st,fZ,rfl,_⟩:=h
   rfl
 . obtain ⟨l,lp,ws,st,fZ,rfl,hl,da,hlp,few,aoh,q⟩:=h
   have mJ:sizeLine=16777216:=sizeLine_eq
   have lw:=da.len
   rw [List.length_map] at lw
   refine ⟨_,(au (aV (i:=2) jx.nd rfl (Or.inl rfl) Bh) (au (cY PassesOwn.never rfl (fO (pV 0)) (cT rfl (aG (aB (i:=3) jx.nd rfl (Or.inl rfl)) (aG (aB (i:=4) jx.nd rfl (Or.inl rfl)) (aG (aB (i:=5) jx.nd rfl (Or.inl rfl)) (aG (aB (i:=6) jx.nd rfl (Or.inl rfl)) bR))))) (aH (pA (cV hr) (pV 2) (bI (aj (pV 4) (aj (pV 5) ak))) (aU (oY rfl) rfl T.max PyProof.Rows.boot_max (aj (uV (cV hr) (pV 2) (bI (aj (pV 4) (aj (pV 5) ak))) (pV 6) ⟨rfl,rfl,rfl,rfl⟩) (aj (pV 6) ak))) rfl))) (au (cY PassesOwn.never rfl (fO (pV 1)) (aB (i:=7) jx.nd rfl (Or.inl rfl)) (aH (cY PassesOwn.never rfl (fO (pV 1)) (aB (i:=8) jx.nd rfl (Or.inl rfl)) (aH (cY PassesOwn.never rfl (fO (pV 1)) (aB (i:=9) jx.nd rfl (Or.inl rfl)) (aH (eV (tu (rG (Ni (cV hr) (bI (aj (pV 8) (aj (pV 7) ak))) (pV 2))) (pw_and1 (rG (Ni (cV hr) (bI (aj (pV 7) (aj (pV 9) ak))) (pV 2))))) (au (aV (i:=10) jx.nd rfl (Or.inl rfl) (aY gF (bZ (cV hr) (pV 2) (bI (aj (pV 8) (aj (pV 7) ak))) (fun _ _=>rfl)) (bZ (cV hr) (pV 2) (bI (aj (pV 7) (aj (pV 9) ak))) (fun _ _=>rfl)))) (aH (pA (cV hr) (pV 2) (bI (aj (pV 8) (aj (pV 9) ak))) (aU (oY rfl) rfl T.max PyProof.Rows.boot_max (aj (uV (cV hr) (pV 2) (bI (aj (pV 8) (aj (pV 9) ak))) (pV 10) ⟨rfl,rfl,rfl,rfl⟩) (aj (pV 10) ak))) rfl))) bO))))))) (aH (aZ (pV 2)))))),?_⟩
   refine fun F hF=>?_
   have s0:Same H (upd H F (.dT [])):=(Same.refl H).upd hF
   have t0:DT (upd H F (.dT [])) F (fun _ _=>none) 0:=⟨[],aq,fun _ _=>rfl,Nat.le_refl _⟩
   generalize upd H F (.dT [])=H0 at s0 t0 ⊢
   refine ⟨l,rfl,⟨_,dg.of (s0 _ _ hl)⟩,jQ (xs:=ws) (PU1 l lp F st H) ⟨_,none,none,none,none,none,none,none,none,rfl,t0,s0,(fun s hs=>by simp at hs),fun p q x e=>by cases e⟩ (fun i σ H' _ hz=>by obtain ⟨d,_o3,_o4,_o5,_o6,_o7,Za,Wm,Ds,_,_,s',_⟩:=hz; exact dg.of (s' _ _ hl)) (fun i v σ H1 hv hz=>?_) (fun σ H1 hz=>?_)⟩
   . obtain ⟨d,o3,o4,o5,o6,o7,o8,o9,gM,rfl,t1,s1,w1,w2⟩:=hz
     obtain ⟨sd,esd,dv⟩:=da.get hv
     rw [List.getElem?_map] at esd
     obtain ⟨sp,esp,rfl⟩:=Option.map_eq_some_iff.mp esd
     obtain ⟨a,b,rfl,ea⟩:=step_at (dv.same s1)
     have ilt:i<st.length:=(List.getElem?_eq_some_iff.mp esp).1
     refine ⟨a,_,rfl,bM.of ea,rfl,_,_,rfl,_,_,rfl,_,_,rfl,_,_,rfl,rfl,?_⟩
     dsimp only
     refine Q0 (p:=sp.2.1) (q:=sp.2.2.1) (z:=sp.2.2.2) rfl rfl rfl rfl hF s1 t1 (by omega) fun H2 s2 t2=>?_
     refine ⟨_,_,_,_,_,_,_,_,_,rfl,t2,s2,fun s hs=>?_,fun p q x e=>?_⟩
     rotate_left
     . rw [List.take_add_one,esp]
       unfold Fw.put at e
       by_cases c:p=sp.2.1/\q=sp.2.2.1
       . rw [if_pos c] at e
         rw [c.1,c.2]
         have Jc:uc sp.2.1 sp.2.2.1 sp.2.2.2 (st.take i++[sp]):=⟨sp.1,by simp⟩
         cases z:d sp.2.1 sp.2.2.1 with
         | none =>
           rw [z] at e
           have e':x=sp.2.2.2:=by
             have w:=Option.some.inj e
             rw [<- w]
             show (if sp.2.2.2 > sp.2.2.2 then sp.2.2.2 else sp.2.2.2)=_
             split <;> rfl
           rw [e']; exact Jc
         | some y =>
           rw [z] at e
           have w:=Option.some.inj e
           have w':(if sp.2.2.2 > y then sp.2.2.2 else y)=x:=w
           by_cases g:sp.2.2.2 > y
           . rw [if_pos g] at w'; rw [<- w']; exact Jc
           . rw [if_neg g] at w'; rw [<- w']; exact (w2 _ _ _ z).mono _
       . rw [if_neg c] at e
         exact (w2 p q x e).mono _
     rw [List.take_add_one,esp] at hs
     rcases List.mem_append.mp hs with z | z
     . obtain ⟨x,ex,lx⟩:=w1 s z
       unfold Fw.put
       by_cases c:s.2.1=sp.2.1/\s.2.2.1=sp.2.2.1
       . rw [if_pos c,<- c.1,<- c.2,ex]
         refine ⟨_,rfl,?_⟩
         show s.2.2.2<=if sp.2.2.2 > x then sp.2.2.2 else x
         split <;> omega
       . rw [if_neg c]; exact ⟨x,ex,lx⟩
     . rw [show s=sp from by simpa using z]
       refine ⟨_,Fw.CG,?_⟩
       split <;> omega
   . obtain ⟨d0,o3,o4,o5,o6,o7,o8,o9,gM,rfl,t1,s1,w1,w2⟩:=hz
     rw [lw,List.take_length] at w1 w2
     refine ⟨lp,rfl,⟨_,dg.of (s1 _ _ hlp)⟩,jQ (xs:=fZ.map iY) (PU2 l lp F fZ d0 H) ⟨_,_,_,_,_,_,_,_,rfl,t1.le (by omega),s1⟩ (fun i σ H' _ hz=>by obtain ⟨_o3,_o4,_o5,_o6,_o7,Za,Wm,Ds,_,_,s'⟩:=hz; exact dg.of (s' _ _ hlp)) (fun i v σ H2 hv hz=>?_) (fun σ H2 hz=>?_)⟩
     . obtain ⟨o3,o4,o5,o6,o7,o8,o9,gM,rfl,t2,s2⟩:=hz
       rw [List.getElem?_map] at hv
       obtain ⟨m,hm,rfl⟩:=Option.map_eq_some_iff.mp hv
       have ilt:i<fZ.length:=(List.getElem?_eq_some_iff.mp hm).1
       refine ⟨lp,rfl,⟨_,dg.of (s2 _ _ hlp)⟩,jQ (xs:=fZ.map iY) (PU3 l lp F fZ m (1000000+i * 625) (Fw.fw (fZ.take i) fZ d0) H) ⟨_,_,_,_,_,_,_,rfl,t2,s2⟩ (fun j σ H' _ hz=>by obtain ⟨_o3,_o4,_o5,_o6,Za,Wm,Ds,_,_,s'⟩:=hz; exact dg.of (s' _ _ hlp)) (fun j v σ H3 hv hz=>?_) (fun σ H3 hz=>?_)⟩
       . obtain ⟨o3,o4,o5,o6,o8,o9,gM,rfl,t3,s3⟩:=hz
         rw [List.getElem?_map] at hv
         obtain ⟨a,ha,rfl⟩:=Option.map_eq_some_iff.mp hv
         have jlt:j<fZ.length:=(List.getElem?_eq_some_iff.mp ha).1
         refine ⟨lp,rfl,⟨_,dg.of (s3 _ _ hlp)⟩,jQ (xs:=fZ.map iY) (PU4 l lp F fZ m a (1000000+i * 625+j * 25) (Fw.turn m (fZ.take j) fZ (Fw.fw (fZ.take i) fZ d0)) H) ⟨_,_,_,_,_,_,rfl,t3,s3⟩ (fun k σ H' _ hz=>by obtain ⟨_o3,_o4,_o5,_o6,Wm,Ds,_,_,s'⟩:=hz; exact dg.of (s' _ _ hlp)) (fun k v σ H4 hv hz=>?_) (fun σ H4 hz=>?_)⟩
         . obtain ⟨o3,o4,o5,o6,o9,gM,rfl,t4,s4⟩:=hz
           rw [List.getElem?_map] at hv
           obtain ⟨b,hb,rfl⟩:=Option.map_eq_some_iff.mp hv
           have klt:k<fZ.length:=(List.getElem?_eq_some_iff.mp hb).1
           have agu:Fw.row m a (fZ.take (k+1)) (Fw.turn m (fZ.take j) fZ (Fw.fw (fZ.take i) fZ d0))=Fw.relax m a b (Fw.row m a (fZ.take k) (Fw.turn m (fZ.take j) fZ (Fw.fw (fZ.take i) fZ d0))):=by
             unfold Fw.row
             rw [List.take_add_one,hb,List.foldl_append]; rfl
           have fin:∀ (abZ:Option V) (H':Hp),Same H H'->DT H' F (Fw.relax m a b (Fw.row m a (fZ.take k) (Fw.turn m (fZ.take j) fZ (Fw.fw (fZ.take i) fZ d0)))) (1000000+i * 625+j * 25+k+1)->PU4 l lp F fZ m a (1000000+i * 625+j * 25) (Fw.turn m (fZ.take j) fZ (Fw.fw (fZ.take i) fZ d0)) H (k+1) [some (.ref l),some (.ref lp),some (.ref F),o3,o4,o5,o6,some (iY m),some (iY a),some (iY b),abZ] H':=fun abZ H' s' t'=>⟨_,_,_,_,_,_,rfl,by rw [agu]; exact t',s'⟩
           generalize Fw.row m a (fZ.take k) (Fw.turn m (fZ.take j) fZ (Fw.fw (fZ.take i) fZ d0))=d at t4 fin
           refine Zh (p:=a) (r:=m) (q:=b) rfl rfl rfl rfl t4 (fun no H5 s5 t5=>?_) (fun x1 x2 e1 e2 H5 s5 t5=>?_)
           . refine fin _ _ (s4.trans s5) ?_
             have z:Fw.relax m a b d=d:=by
               unfold Fw.relax
               rcases no with e | e
               . rw [e]
               . cases d a m with
                 | none=>rfl
                 | some w=>rw [e]
             rw [z]
             exact t5.le (Nat.le_succ _)
           . refine Zi (p:=a) (r:=m) (q:=b) rfl rfl rfl rfl t5 e1 e2 fun H6 s6 t6=>?_
             refine Q0 (p:=a) (q:=b) (z:=x1+x2) rfl rfl rfl rfl hF ((s4.trans s5).trans s6) t6 (by omega) fun H9 s9 t9=>?_
             refine fin _ _ s9 ?_
             have z:Fw.relax m a b d=Fw.put d a b (if x1+x2 > (d a b).getD (x1+x2) then x1+x2 else (d a b).getD (x1+x2)):=by unfold Fw.relax; rw [e1,e2]
             rw [z]
             exact t9
         . obtain ⟨o3,o4,o5,o6,o9,gM,rfl,t4,s4⟩:=hz
           rw [List.length_map,List.take_length] at t4
           refine ⟨_,_,_,_,_,_,_,rfl,?_,s4⟩
           have e:Fw.turn m (fZ.take (j+1)) fZ (Fw.fw (fZ.take i) fZ d0)=Fw.row m a fZ (Fw.turn m (fZ.take j) fZ (Fw.fw (fZ.take i) fZ d0)):=by
             unfold Fw.turn
             rw [List.take_add_one,ha,List.foldl_append]; rfl
           rw [e]
           exact t4.le (by omega)
       . obtain ⟨o3,o4,o5,o6,o8,o9,gM,rfl,t3,s3⟩:=hz
         rw [List.length_map,List.take_length] at t3
         refine ⟨_,_,_,_,_,_,_,_,rfl,?_,s3⟩
         have e:Fw.fw (fZ.take (i+1)) fZ d0=Fw.turn m fZ fZ (Fw.fw (fZ.take i) fZ d0):=by
           unfold Fw.fw
           rw [List.take_add_one,hm,List.foldl_append]; rfl
         rw [e]
         exact t3.le (by omega)
     . obtain ⟨o3,o4,o5,o6,o7,o8,o9,gM,rfl,t2,s2⟩:=hz
       rw [List.length_map,List.take_length] at t2
       exact q F d0 H2 hF (t2.le (by omega)) w1 w2 s2
end
end mW
namespace mW
open PySem L2 gY
theorem Gx {r:R2} {ta tb:TE} {σ:St} {H:Hp} {Q:VK}:wQ r ta tb σ H Q=ta σ H fun x H1=>tb σ H1 fun y H2=>r x y H2 Q:=rfl
theorem ab0 {v:V} {σ:St} {H:Hp} {Q:VK}:tC v σ H Q=Q v H:=rfl
section
variable {σ:St} {H:Hp} {t0 t1 t2 t3:TE} {F:Addr} {d:PD} {n:Nat} {p q:Option Str} {x z:Int} {Q:VK}
theorem tkG {v u:V} (h1:∀ H Q,Q v H->t1 σ H Q) (h2:∀ H Q,Q u H->t2 σ H Q) (k:∀ b H',Same H H'->H' b=some (.tup [v,u])->Q (.ref b) H'):mF (cj t1 (cj t2 iI)) σ H Q:=by
 unfold mF
 rw [oX]
 refine h1 _ _ ?_
 rw [oX]
 refine h2 _ _ ?_
 exact ⟨by show 2<=sizeLine; rw [sizeLine_eq]; decide,fun p hp=>k p _ ((Same.refl H).upd hp) aq⟩
theorem Jm (h0:∀ H Q,Q (.ref F) H->t0 σ H Q) (h1:∀ H Q,Q (iY p) H->t1 σ H Q) (h2:∀ H Q,Q (iY q) H->t2 σ H Q) (D:DT H F d n) (h:d p q=some x) (k:∀ H',Same H H'->DT H' F d n->Q (.int x) H') :
   xr t0 (mF (cj t1 (cj t2 iI))) σ H Q:=by
 unfold xr
 refine h0 _ _ (tkG h1 h2 fun b H' s eb=>⟨F,.int x,rfl,?_,k H' s (D.same s)⟩)
 have w:=(D.same s).get eb
 rw [h] at w
 exact w
theorem Q6 (h0:∀ H Q,Q (.ref F) H->t0 σ H Q) (h1:∀ H Q,Q (iY p) H->t1 σ H Q) (h2:∀ H Q,Q (iY q) H->t2 σ H Q) (h3:∀ H Q,Q (.int z) H->t3 σ H Q) (D:DT H F d n) (k:∀ H',Same H H'->DT H' F d n->Q (.int ((d p q).getD z)) H') :
   uU t0 (mF (cj t1 (cj t2 iI))) t3 σ H Q:=by
 unfold uU
 refine h0 _ _ ⟨F,rfl,?_,tkG h1 h2 fun b H' s eb=>h3 _ _ ⟨_,(D.same s).get eb,?_⟩⟩
 . obtain ⟨kv,e,_⟩:=D
   exact .inr ⟨kv,.inl e⟩
 . have w:=k H' s (D.same s)
   cases e:d p q with
   | none=>rw [e] at w; exact w
   | some y=>rw [e] at w; exact w
end
def dI (ss:List Str):List (Option Str):=none :: ss.map some
def jZ (d:PD):Str->Int:=fun n=>(d none (some n)).getD 0
def wD (d:PD):Str->Int:=fun n=>0-(d (some n) none).getD 0
section
variable {hs:List aJ} {ls:List Letter} {st:List Step} {d:PD} {ss:List Str}
theorem Dy (w:Dv st d) (cl:Fw.Closed (dI ss) (dI ss) d) (nb:¬ Fw.Bad (dI ss) d) (all:∀ n∈ss,∃ x,d none (some n)=some x) {p q:Option Str} {y:Int} (hp:p∈dI ss) (hq:q∈dI ss) (h:uc p q y st):pm (jZ d) p+y<=pm (jZ d) q:=by
 obtain ⟨l,hl⟩:=h
 obtain ⟨x,ex,lx⟩:=w _ hl
 have n0:none∈dI ss:=List.mem_cons_self
 have zero:∀ c,d none none=some c->c<=0:=fun c ec=>by
   rcases Int.lt_or_le 0 c with z | z
   . exact absurd ⟨none,n0,c,ec,z⟩ nb
   . exact z
 have ofS:∀ n,some n∈dI ss->∃ x,d none (some n)=some x/\jZ d n=x:=fun n hn=>by
   have hn':n∈ss:=by
     rcases List.mem_cons.mp hn with z | z
     . cases z
     . obtain ⟨k,hk,e⟩:=List.mem_map.mp z; cases e; exact hk
   obtain ⟨x,e⟩:=all n hn'
   exact ⟨x,e,by unfold jZ; rw [e]; rfl⟩
 cases p with
 | none =>
   cases q with
   | none=>have:=zero x ex; show (0:Int)+y<=0; have lx':y<=x:=lx; omega
   | some b =>
     obtain ⟨b1,e1,e2⟩:=ofS b hq
     have ex':d none (some b)=some x:=ex
     rw [ex'] at e1
     cases e1
     show (0:Int)+y<=jZ d b
     have lx':y<=x:=lx
     omega
 | some a =>
   obtain ⟨a1,e1,e2⟩:=ofS a hp
   obtain ⟨c,ec,lc⟩:=cl (some a) hp none n0 q hq a1 x e1 ex
   have lx':y<=x:=lx
   cases q with
   | none =>
     have:=zero c ec
     show jZ d a+y<=0
     omega
   | some b =>
     obtain ⟨b1,e3,e4⟩:=ofS b hq
     rw [ec] at e3
     cases e3
     show jZ d a+y<=jZ d b
     omega
theorem Gy (ok:Aa hs ls st) (gh:bw hs) (gl:bx hs ls) {m:Str->Int} {fZ:List (Option Str)} (n0:none∈fZ) (hn:∀ n∈namesOf hs,some n∈fZ) (h:∀ p q y,p∈fZ->q∈fZ->uc p q y st->pm m p+y<=pm m q):cR hs ls m=true:=by
 refine Bool.and_eq_true_iff.mpr ⟨List.all_eq_true.mpr fun k hk=>?_,List.all_eq_true.mpr fun l hl=>?_⟩
 . obtain ⟨o1,o2,o3⟩:=ok.1 k hk
   have nm:∀ r∈bL k,some r.1∈fZ:=fun r hr=>hn _ (List.mem_flatMap.mpr ⟨k,hk,List.mem_map_of_mem hr⟩)
   refine cA.mpr ⟨fun r hr=>?_,?_,fun rs hrs=>?_⟩
   . have z1:(0:Int)+(r.2-k.high)<=m r.1:=h _ _ _ n0 (nm r hr) (o1 r hr).1
     have z2:m r.1+(k.low-r.2)<=(0:Int):=h _ _ _ (nm r hr) n0 (o1 r hr).2
     unfold jd
     exact Bool.and_eq_true_iff.mpr ⟨decide_eq_true (by omega),decide_eq_true (by omega)⟩
   . have go:∀ (l pre:List Str),aR k=pre++l->je m l=true:=by
       intro l
       induction l with
       | nil=>intro _ _; rfl
       | cons a l ih =>
         intro pre e
         cases l with
         | nil=>rfl
         | cons b r =>
           have w:=ih (pre++[a]) (by rw [e]; simp)
           have ina:∀ c∈[a,b],some c∈fZ:=fun c hc=>hn _ (List.mem_flatMap.mpr ⟨k,hk,by rw [e]; simp at hc ⊢; rcases hc with rfl | rfl <;> simp⟩)
           have z:m a+1<=m b:=h _ _ _ (ina a (by simp)) (ina b (by simp)) (o2 pre r a b e)
           show (gU m (a,b) && je m (b :: r))=true
           exact Bool.and_eq_true_iff.mpr ⟨decide_eq_true (show 1<=m b-m a by omega),w⟩
     exact go _ [] rfl
   . have inr:∀ r∈rs,r∈bL k:=fun r hr=>List.mem_flatten.mpr ⟨rs,hrs,hr⟩
     have pr:∀ (i j:Nat) (q r:Row),i<j->rs[i]?=some q->rs[j]?=some r->(q.2-m q.1)-(r.2-m r.1)<=k.aK/\(r.2-m r.1)-(q.2-m q.1)<=k.aK:=fun i j q r lt e1 e2=>by
       have hq:=nm q (inr q (List.mem_of_getElem? e1))
       have hr:=nm r (inr r (List.mem_of_getElem? e2))
       obtain ⟨w1,w2⟩:=o3 rs hrs i j q r lt e1 e2
       have z1:m q.1+(r.2-q.2-k.aK)<=m r.1:=h _ _ _ hq hr w1
       have z2:m r.1+(q.2-r.2-k.aK)<=m q.1:=h _ _ _ hr hq w2
       omega
     have d0:=(gh.all k hk).aK
     unfold cF
     refine decide_eq_true fun a ha b hb=>?_
     obtain ⟨q,hq,rfl⟩:=List.mem_map.mp ha
     obtain ⟨r,hr,rfl⟩:=List.mem_map.mp hb
     obtain ⟨i,ei⟩:=List.mem_iff_getElem?.mp hq
     obtain ⟨j,ej⟩:=List.mem_iff_getElem?.mp hr
     rcases Nat.lt_trichotomy i j with z | z | z
     . exact (pr i j q r z ei ej).1
     . rw [z,ej] at ei
       cases ei
       omega
     . exact (pr j i r q z ej ei).2
 . obtain ⟨h1,m1,h2,m2,n1,n2,_⟩:=(gl.all l hl).Fx
   have i1:some l.1.1∈fZ:=hn _ (List.mem_flatMap.mpr ⟨h1,m1,n1⟩)
   have i2:some l.1.2∈fZ:=hn _ (List.mem_flatMap.mpr ⟨h2,m2,n2⟩)
   obtain ⟨o1,o2⟩:=ok.2 l hl
   have z1:m l.1.1+l.2.1<=m l.1.2:=h _ _ _ i1 i2 o1
   unfold gk
   refine Bool.and_eq_true_iff.mpr ⟨decide_eq_true (by omega),?_⟩
   cases e:l.2.2 with
   | none=>rfl
   | some z =>
     have z2:m l.1.2+(0-z)<=m l.1.1:=h _ _ _ i2 i1 (o2 z e)
     exact decide_eq_true (by omega)
structure Zj (hs:List aJ) (ls:List Letter) (ss:List Str) (d:PD):Prop where
 lo:∀ h∈hs,∀ r∈bL h,∃ x,d none (some r.1)=some x/\r.2-h.high<=x
 hi:∀ h∈hs,∀ r∈bL h,∃ x,d (some r.1) none=some x/\h.low-r.2<=x
 snd:∀ m,cR hs ls m=true->∀ p q x,d p q=some x->pm m p+x<=pm m q
 good:¬ Fw.Bad (dI ss) d->cR hs ls (jZ d)=true
theorem Va {d0:PD} (Wq:ss.Perm (namesOf hs)) (gh:bw hs) (gl:bx hs ls) (ok:Aa hs ls st) (sd:∀ s∈st,Ao hs ls s) (w:Dv st d0) (fr:Q5 st d0):Zj hs ls ss (Fw.fw (dI ss) (dI ss) d0):=by
 have le:=Fw.Wc (dI ss) (dI ss) d0
 have w':Dv st (Fw.fw (dI ss) (dI ss) d0):=fun s hs=>by
   obtain ⟨x,e,l⟩:=w s hs
   obtain ⟨y,e2,l2⟩:=le _ _ x e
   exact ⟨y,e2,Int.le_trans l l2⟩
 have lo:∀ h∈hs,∀ r∈bL h,∃ x,Fw.fw (dI ss) (dI ss) d0 none (some r.1)=some x/\r.2-h.high<=x:=fun h hh r hr=>by
   obtain ⟨l,hl⟩:=((ok.1 h hh).1 r hr).1
   exact w' _ hl
 refine ⟨lo,fun h hh r hr=>?_,fun m em=>?_,fun nb=>?_⟩
 . obtain ⟨l,hl⟩:=((ok.1 h hh).1 r hr).2
   exact w' _ hl
 . refine Jk (B:=fun p q x=>pm m p+x<=pm m q) (fun p q r x y a b=>by omega) (dI ss) (dI ss) fun p q x e=>?_
   obtain ⟨l,hl⟩:=fr p q x e
   exact sd _ hl m em
 . have cl:=(Fw.YB (ps:=dI ss) d0).resolve_left nb
   refine Gy ok gh gl (fZ:=dI ss) List.mem_cons_self (fun n hn=>List.mem_cons_of_mem _ (List.mem_map_of_mem (Wq.mem_iff.mpr hn))) fun p q y hp hq h=>Dy w' cl nb (fun n hn=>?_) hp hq h
   obtain ⟨k,hk,hn'⟩:=List.mem_flatMap.mp (Wq.mem_iff.mp hn)
   obtain ⟨r,hr,rfl⟩:=List.mem_map.mp hn'
   obtain ⟨x,e,_⟩:=lo k hk r hr
   exact ⟨x,e⟩
end
def PM (l3 F G:Addr) (x:V) (side:Int) (ss:List Str) (M:Str->Int) (H8:Hp):Nat->St->Hp->Prop:=fun i σ H'=>∃ o5:Option V,σ=[some x,some (.int side),some (.ref l3),some (.ref F),some (.ref G),o5]/\H' G=some (.dK (Jg (ss.take i) M))/\aP G H8 H'
def sO:Sp:=fun vs H Q _=>∃ (x:V) (side:Int) (hs:List aJ) (ls:List Letter),vs=[x,.int side]/\(side=0∨side=1)/\cU H x hs ls/\bw hs/\bx hs ls /\
 (∀ H',Same H H'->(∀ m,cR hs ls m=false)->Q .non H') /\
 ∀ (a:Addr) (m:Str->Int) (ss:List Str) (H':Hp),H a=none->H' a=some (.dK (Jg ss m))->ss.Perm (namesOf hs)->Same H H'->(side=0->cR hs ls m=true)->(side=1->(∀ m',cR hs ls m'=true->∀ n∈ss,m' n<=m n)/\∀ h∈hs,∀ r∈bL h,m r.1<=r.2-h.low)->Q (.ref a) H'
section
variable {P:Program} {w:World} {K:PySem.W.Frag} {mg:Str->Option Value} {base:Heap} {t8:Tok}
theorem j4:bG ["_law_ledger_here","_law_side","_law_points","_law_sums_here","_law_found","_law_row"] ["_law_ledger_here","_law_side"] (aA jV):=⟨rfl,rfl,rfl,by decide +kernel,rfl,by decide +kernel,by decide +kernel⟩
theorem Gz {f GC Ad GD:Addr} {fd Jo Dz Jp:FuncData} (F:nG K "_law_moments" "_law_moments" jV f fd) (T:Txt mg t8)
   (Zk:aX P w K mg base dM 1 GC Jo ["_law_ledger_here"] FP) (Zm:mg "_law_rows" = some (.ref GC)) (Zn:PySem.W.keepIn K (.ref GC)=true) (Zo:Binds K Jo ["_law_ledger_here"] [])
   (Vb:aX P w K mg base dM 1 Ad Dz ["_law_ledger_here"] Ac) (Vc:mg "_law_steps" = some (.ref Ad)) (k_steps:PySem.W.keepIn K (.ref Ad)=true) (Vd:Binds K Dz ["_law_ledger_here"] [])
   (Zq:aX P w K mg base dM 1 GD Jp ["_law_steps_here","_law_points"] Gw) (Zr:mg "_law_sums" = some (.ref GD)) (Zt:PySem.W.keepIn K (.ref GD)=true) (Zu:Binds K Jp ["_law_steps_here","_law_points"] []):aX P w K mg base dM 2 f fd ["_law_ledger_here","_law_side"] sO:=by
 refine F.ok j4 (fun vs H Q E h=>?_) (fun cdv A outer s H vs Q E hr h=>?_)
 . obtain ⟨x,side,hs,ls,rfl,_⟩:=h
   rfl
 . obtain ⟨x,side,hs,ls,rfl,Wr,hx,gh,gl,qn,qd⟩:=h
   have mJ:sizeLine=16777216:=sizeLine_eq
   refine ⟨_,(au (aV (i:=2) j4.nd rfl (Or.inl rfl) (aY yN (fQ (aj kO ak)) (aM Zk hr rfl Zm Zn Zo .nil bf (aj (pV 0) ak)))) (au (aV (i:=3) j4.nd rfl (Or.inr rfl) (aM Zq hr rfl Zr Zt Zu .nil bf (aj (aM Vb hr rfl Vc k_steps Vd .nil bf (aj (pV 0) ak)) (aj (pV 2) ak)))) (au (eV (L2.iY (aU (BR rfl) rfl T.any (show bootBuiltins "any" = some (.builtin "any") by decide +kernel) (aj (dJ (g8:=aA jV) (own:=["_law_one"]) (cap:=["_law_sums_here"]) (ix:=[3]) rfl rfl ⟨rfl,by decide +kernel,by decide +kernel,by decide +kernel,rfl,by decide +kernel⟩ (fO (pV 2)) (fun b=>(aB (i:=0) (show (["_law_one","_law_sums_here"]:List Str).Nodup by decide +kernel) rfl (Or.inl rfl))) (fun b=>bU) (fun b=>(jH Sv (uV (cV hr) (pV 1) (bI (aj (pV 0) (aj (pV 0) ak))) aD ⟨rfl,rfl,rfl,rfl⟩) aD (bJ _)))) ak))) (aH (aZ kO)) bO) (au (aV (i:=4) j4.nd rfl (Or.inl rfl) nU) (au (cY PassesOwn.never rfl (fO (gR yK (pV 2) (J7 aD) mG)) (aB (i:=5) j4.nd rfl (Or.inl rfl)) (aH (pA (cV hr) (pV 4) (pV 5) (cP Eo (fQ (aj (bZ (cV hr) (pV 3) (bI (aj kO (aj (pV 5) ak))) (fun _ _=>rfl)) (aj (aY jB aD (bZ (cV hr) (pV 3) (bI (aj (pV 5) (aj kO ak))) (fun _ _=>rfl))) ak))) (pV 1) (fun _ _=>rfl)) rfl))) (aH (aZ (pV 4)))))))),?_⟩
   have few:=gh.few
   refine ⟨by show 1<=sizeLine; omega,fun l1 f1=>?_⟩
   have s1:Same H (upd H l1 (.lst [.non])):=(Same.refl H).upd f1
   have e1:upd H l1 (.lst [.non]) l1=some (.lst [.non]):=aq
   generalize upd H l1 (.lst [.non])=H1 at s1 e1 ⊢
   refine ⟨x,hs,ls,rfl,hx.ts s1.tups,gh,fun l2 ss H2 e2 s2 Wq so=>?_⟩
   have lss:ss.length<=24:=by rw [Wq.length_eq]; exact few
   refine ⟨l1,l2,_,_,rfl,rfl,s2 _ _ e1,e2,by rw [List.length_map]; show 1+_<=_; omega,fun l3 f3=>?_⟩
   have ep:[V.non]++ss.map V.str=(dI ss).map iY:=by unfold dI; rw [List.map_cons,List.map_map]; rfl
   rw [ep]
   have s3:Same H2 (upd H2 l3 (.lst ((dI ss).map iY))):=(Same.refl H2).upd f3
   have e3:upd H2 l3 (.lst ((dI ss).map iY)) l3=some (.lst ((dI ss).map iY)):=aq
   generalize upd H2 l3 (.lst ((dI ss).map iY))=H3 at s3 e3 ⊢
   have S3:=(s1.trans s2).trans s3
   refine ⟨x,hs,ls,rfl,hx.ts S3.tups,gh,gl,fun l4 st H4 f4 L4 ok agw=>?_⟩
   obtain ⟨ws,e4,da,s4,sd⟩:=L4
   have S4:=S3.trans s4
   have lpt:(dI ss).length<=25:=by unfold dI; rw [List.length_cons,List.length_map]; omega
   refine ⟨l4,l3,ws,st,dI ss,rfl,e4,da,s4 _ _ e3,agw,lpt,fun F d0 H5 fF t5 w fr s5=>?_⟩
   have so:=Va Wq gh gl ok sd w fr
   generalize Fw.fw (dI ss) (dI ss) d0=d at t5 so
   have S5:=S4.trans s5
   have e5:=s5 _ _ (s4 _ _ e3)
   refine ⟨l3,rfl,⟨_,dg.of e5⟩,fun D hD=>lY (xs:=(dI ss).map iY) (ys:=((dI ss).map fun p=>decide (0<(d p p).getD 0)).map V.bl) hD e5 (by rw [List.length_map]; omega) (by rw [List.length_map,List.length_map,List.length_map]) (fun i y H6 hy s6 b R hR=>?_) (fun H6 s6 e6=>?_)⟩
   . rw [List.getElem?_map] at hy
     obtain ⟨p,hp,rfl⟩:=Option.map_eq_some_iff.mp hy
     refine gn ?_
     rw [Gx]
     refine Q6 (σ:=[some (iY p),some (.ref F)]) (t0:=tV 1) (t1:=tV 0) (t2:=tV 0) (t3:=tC (.int 0)) (F:=F) (p:=p) (q:=p) (z:=0) (fun _ _ q=>q) (fun _ _ q=>q) (fun _ _ q=>q) (fun _ _ q=>q) (t5.same s6) fun H7 s7 t7=>?_
     exact hR H7 _ (by rw [List.getElem?_map,List.getElem?_map,hp]; rfl) s7
   . refine ⟨D,_,rfl,dg.of e6,?_⟩
     have S6:=S5.trans s6
     cases ea:(((dI ss).map fun p=>decide (0<(d p p).getD 0)).any id) with
     | true =>
       refine qn H6 S6 fun m=>?_
       cases em:cR hs ls m with
       | false=>rfl
       | true =>
         obtain ⟨b,hb,eb⟩:=List.any_eq_true.mp ea
         obtain ⟨p,hp,rfl⟩:=List.mem_map.mp hb
         have z:0<(d p p).getD 0:=of_decide_eq_true eb
         cases ed:d p p with
         | none=>rw [ed] at z; cases z
         | some c =>
           rw [ed] at z
           have w:=so.snd m em p p c ed
           have z':0<c:=z
           omega
     | false =>
       have nb:¬ Fw.Bad (dI ss) d:=fun ⟨p,hp,c,ec,c0⟩=>by
         have z:=List.any_eq_false.mp ea _ (List.mem_map_of_mem (f:=fun p=>decide (0<(d p p).getD 0)) hp)
         apply z
         show decide (0<(d p p).getD 0)=true
         rw [ec]
         exact decide_eq_true c0
       have pl:=so.good nb
       refine fun G hG=>?_
       have s7:Same H6 (upd H6 G (.dK [])):=(Same.refl H6).upd hG
       have e7:upd H6 G (.dK []) G=some (.dK (Jg [] (fun _=>0))):=aq
       generalize upd H6 G (.dK [])=H7 at s7 e7 ⊢
       have S7:=S6.trans s7
       have fG:H G=none:=by
         cases z:H G with
         | none=>rfl
         | some u=>rw [S6 _ _ z] at hG; cases hG
       refine ⟨l3,_,rfl,dg.of (s7 _ _ (s6 _ _ e5)),fun l5 f5=>?_⟩
       rw [abQ,<- List.map_drop,show (dI ss).drop 1=ss.map some from rfl]
       have s8:Same H7 (upd H7 l5 (.lst ((ss.map some).map iY))):=(Same.refl H7).upd f5
       have e8:upd H7 l5 (.lst ((ss.map some).map iY)) l5=some (.lst ((ss.map some).map iY)):=aq
       have eG:=s8 _ _ e7
       generalize upd H7 l5 (.lst ((ss.map some).map iY))=H8 at s8 e8 eG ⊢
       have S8:=S7.trans s8
       have t8':=((t5.same s6).same s7).same s8
       have nds:ss.Nodup:=Wq.nodup_iff.mpr gh.rows
       have rowOf:∀ n∈ss,∃ h∈hs,∃ r∈bL h,r.1=n:=fun n hn=>by
         obtain ⟨h,hh,hn'⟩:=List.mem_flatMap.mp (Wq.mem_iff.mp hn)
         obtain ⟨r,hr,e⟩:=List.mem_map.mp hn'
         exact ⟨h,hh,r,hr,e⟩
       obtain ⟨M,eM⟩:∃ M:Str->Int,M=if side=0 then jZ d else wD d:=⟨_,rfl⟩
       refine ⟨l5,rfl,⟨_,dg.of e8⟩,jQ (xs:=(ss.map some).map iY) (PM l3 F G x side ss M H8) ⟨_,rfl,eG,fun b o n e=>e⟩ (fun i σ H' _ hz=>?_) (fun i v σ H9 hv hz=>?_) (fun σ H9 hz=>?_)⟩
       . obtain ⟨_,_,_,sb⟩:=hz
         exact dg.of (sb _ _ (fun z=>by rw [z,eG] at e8; cases e8) e8)
       . obtain ⟨o5,rfl,eK,sb⟩:=hz
         rw [List.getElem?_map,List.getElem?_map] at hv
         obtain ⟨p',hp',rfl⟩:=Option.map_eq_some_iff.mp hv
         obtain ⟨n,hn,rfl⟩:=Option.map_eq_some_iff.mp hp'
         have ilt:i<ss.length:=(List.getElem?_eq_some_iff.mp hn).1
         obtain ⟨h,hh,r,hr,er⟩:=rowOf n (List.mem_of_getElem? hn)
         obtain ⟨xl,exl,_⟩:=so.lo h hh r hr
         obtain ⟨xh,exh,_⟩:=so.hi h hh r hr
         rw [er] at exl exh
         have nFG:F≠G:=fun z=>by obtain ⟨kv,e,_⟩:=t8'; rw [z,eG] at e; cases e
         have t9:DT H9 F d 2000000:=by obtain ⟨kv,e,v,l⟩:=t8'; exact ⟨kv,sb _ _ nFG e,v,l⟩
         refine gn ?_
         unfold HF
         rw [Gx]
         unfold rK
         rw [oX]
         refine Jm (σ:=[some x,some (.int side),some (.ref l3),some (.ref F),some (.ref G),some (.str n)]) (t0:=tV 3) (t1:=tC .non) (t2:=tV 5) (F:=F) (p:=none) (q:=some n) (fun _ _ q=>q) (fun _ _ q=>q) (fun _ _ q=>q) t9 exl fun DW Bl t10=>?_
         rw [oX,Gx,ab0]
         refine Jm (σ:=[some x,some (.int side),some (.ref l3),some (.ref F),some (.ref G),some (.str n)]) (t0:=tV 3) (t1:=tV 5) (t2:=tC .non) (F:=F) (p:=some n) (q:=none) (fun _ _ q=>q) (fun _ _ q=>q) (fun _ _ q=>q) t10 exh fun Ae s11 t11=>?_
         refine ⟨by show 2<=sizeLine; omega,fun l6 f6=>?_⟩
         have s12:Same Ae (upd Ae l6 (.lst [.int xl,.int (0-xh)])):=(Same.refl Ae).upd f6
         have e12:upd Ae l6 (.lst [.int xl,.int (0-xh)]) l6=some (.lst [.int xl,.int (0-xh)]):=aq
         generalize upd Ae l6 (.lst [.int xl,.int (0-xh)])=GF at s12 e12 ⊢
         have S12:Same H9 GF:=(Bl.trans s11).trans s12
         have eMn:M n=if side=0 then xl else 0-xh:=by
           rw [eM]
           rcases Wr with z | z
           . rw [if_pos z,if_pos z]; unfold jZ; rw [exl]; rfl
           . rw [if_neg (by omega),if_neg (by omega)]; unfold wD; rw [exh]; rfl
         refine qM e12 (v:=.int (M n)) (by rw [eMn]; rcases Wr with z | z <;> rw [z] <;> rfl) ?_
         have nn:n ∉ ss.take i:=pG nds hn
         refine ⟨G,_,rfl,uf.k (k:=Sum.inr n) (S12 _ _ eK) (by unfold Jg; rw [List.length_map,List.length_take]; omega),?_⟩
         refine ⟨_,rfl,?_,fun b o nb e=>by rw [aL nb]; exact S12 _ _ (sb b o nb e)⟩
         rw [aq,gY.qR (by rw [v7]; intro w; obtain ⟨n',hn',e⟩:=List.mem_map.mp w; exact nn (Sum.inr.inj e ▸ hn')),List.take_add_one,hn]
         unfold Jg
         rw [List.map_append]
         rfl
       . obtain ⟨o5,rfl,eK,sb⟩:=hz
         rw [List.length_map,List.length_map,List.take_length] at eK
         refine qd G M ss H9 fG eK Wq (fun b o e=>sb b o (fun z=>by rw [z,fG] at e; cases e) (S8 b o e)) (fun z=>by rw [eM,if_pos z]; exact pl) (fun z=>?_)
         have em:M=wD d:=by rw [eM,if_neg (by omega)]
         rw [em]
         refine ⟨fun m' em' n hn=>?_,fun h hh r hr=>?_⟩
         . obtain ⟨h,hh,r,hr,er⟩:=rowOf n hn
           obtain ⟨xh,exh,_⟩:=so.hi h hh r hr
           rw [er] at exh
           have w:m' n+xh<=(0:Int):=so.snd m' em' _ _ _ exh
           unfold wD
           rw [exh]
           show m' n<=0-xh
           omega
         . obtain ⟨xh,exh,lx⟩:=so.hi h hh r hr
           unfold wD
           rw [exh]
           show 0-xh<=r.2-h.low
           omega
end
end mW
namespace mW
open PySem L2 gY
theorem cg {H H1:Hp} {p:Addr} (h:bD H p) (s:Same H H1):bD H1 p:=let ⟨n,e,n0⟩:=h; ⟨n,s _ _ e,n0⟩
def m7 (p:Addr) (H H':Hp):Prop:=∀ b o,b≠p->H b=some o->H' b=some o∨∃ kvs ob,o=.dK kvs/\H' b=some (.nu ob o)
theorem m7.ofB {p:Addr} {H H':Hp} (s:aP p H H'):m7 p H H':=fun b o n e=>.inl (s b o n e)
theorem m7.of {p:Addr} {H H':Hp} (s:Same H H'):m7 p H H':=fun b o _ e=>.inl (s b o e)
theorem m7.ofF {p:Addr} {H H':Hp} (s:cQ H H'):m7 p H H':=fun b o _ e=>s b o e
theorem m7.trans {p:Addr} {H H1 H2:Hp} (a:m7 p H H1) (b:m7 p H1 H2):m7 p H H2:=fun c o n e=>by
 rcases a c o n e with q | ⟨kvs,ob,rfl,q⟩
 . exact b c o n q
 . rcases b c _ n q with z | ⟨_,_,z,_⟩
   . exact .inr ⟨kvs,ob,rfl,z⟩
   . cases z
theorem m7.rd {p:Addr} {H H':Hp} (s:m7 p H H') {a:Addr} (n:a≠p) {kvs:List (Key × V)} (h:Rd H a (.dK kvs)):Rd H' a (.dK kvs):=by
 rcases h with h | ⟨o,h⟩
 . rcases s a _ n h with q | ⟨_,ob,_,q⟩
   . exact .inl q
   . exact .inr ⟨ob,q⟩
 . rcases s a _ n h with q | ⟨_,_,z,_⟩
   . exact .inr ⟨o,q⟩
   . cases z
theorem m7.tup {p:Addr} {H H':Hp} (s:m7 p H H') {a:Addr} {xs:List V} (n:a≠p) (h:H a=some (.tup xs)):H' a=some (.tup xs):=by
 rcases s a _ n h with q | ⟨_,_,z,_⟩
 . exact q
 . cases z
theorem m7.lst {p:Addr} {H H':Hp} (s:m7 p H H') {a:Addr} {xs:List V} (n:a≠p) (h:H a=some (.lst xs)):H' a=some (.lst xs):=by
 rcases s a _ n h with q | ⟨_,_,z,_⟩
 . exact q
 . cases z
theorem m7.nu {p:Addr} {H H':Hp} (s:m7 p H H') {a:Addr} {o:Obj} {u:HO} (n:a≠p) (h:H a=some (.nu o u)):H' a=some (.nu o u):=by
 rcases s a _ n h with q | ⟨_,_,z,_⟩
 . exact q
 . cases z
theorem tup_ne {p a:Addr} {H:Hp} {xs:List V} (pk:bD H p) (h:H a=some (.tup xs)):a≠p:=fun z=>by
 obtain ⟨n,e,_⟩:=pk
 rw [z,e] at h; cases h
theorem Ws {p a:Addr} {H:Hp} {kvs:List (Key × V)} (pk:bD H p) (h:Rd H a (.dK kvs)):a≠p:=fun z=>by
 obtain ⟨n,e,_⟩:=pk
 rcases h with h | ⟨o,h⟩ <;> (rw [z,e] at h; cases h)
theorem m7.tups {p:Addr} {H H':Hp} (s:m7 p H H') (pk:bD H p):dX H H':=fun _ _ h=>s.tup (tup_ne pk h) h
theorem InstAt.kf {p:Addr} {H H':Hp} {a:Addr} {m:Str->Int} {ns:List Str} (h:InstAt H a m ns) (pk:bD H p) (s:m7 p H H'):InstAt H' a m ns:=let ⟨k,r,e,v⟩:=h; ⟨k,s.rd (Ws pk r) r,e,v⟩
theorem Ma {ns:List Str} (h:ns.Nodup):(ns.map (Sum.inr:Str->Key)).Nodup:=by
 rw [List.nodup_iff_pairwise_ne,List.pairwise_map]
 exact (List.nodup_iff_pairwise_ne.mp h).imp fun h z=>h (Sum.inr.inj z)
theorem Mf {L:List (Key × V)} (h:(L.map (·.1)).Nodup):gA [] L=L:=by
 rw [qp L [] h (fun k _ z=>by simp at z)]; rfl
theorem ab2 {K:PySem.W.Frag} {H H':Hp} {a:Addr} {xs:List V} (s:cQ H H') (h:dg K H a xs):dg K H' a xs:=by
 rcases h with (h | ⟨o,h⟩) | h
 . exact .inl (.inl (s.lst h))
 . exact .inl (.inr ⟨o,s.nu h⟩)
 . exact .inr h
theorem Wt {p:Addr} {H H1 H2:Hp} (s:cQ H H1) (f:H p=none) (k:m7 p H1 H2):cQ H H2:=fun b o e=>by
 have n:b≠p:=fun z=>by rw [z,f] at e; cases e
 rcases s b o e with q | ⟨kvs,ob,rfl,q⟩
 . exact k b o n q
 . exact .inr ⟨kvs,ob,rfl,k.nu n q⟩
theorem Q7 {ns:List Str} {L:List (Key × V)} {P:Str->Int->Prop} (hk:L.map (·.1)=ns.map Sum.inr) (hv:∀ q∈L,∃ (n:Str) (z:Int),q.1=.inr n/\q.2=.int z/\P n z):∃ m:Str->Int,∀ n∈ns,dW L (.inr n)=some (.int (m n))/\P n (m n):=by
 refine ⟨fun n=>((dW L (.inr n)).map intOf).getD 0,fun n hn=>?_⟩
 have h1:(L.any fun kv=>decide (kv.1=Sum.inr n))=true:=by
   have z:(Sum.inr n:Key)∈L.map (·.1):=by rw [hk]; exact List.mem_map_of_mem hn
   obtain ⟨q,hq,e⟩:=List.mem_map.mp z
   exact List.any_eq_true.mpr ⟨q,hq,decide_eq_true e⟩
 rw [lG] at h1
 obtain ⟨v,ev⟩:=Option.isSome_iff_exists.mp h1
 have hm:∃ q∈L,q.1=Sum.inr n/\q.2=v:=by
   unfold dW at ev
   obtain ⟨q,hq,e⟩:=Option.map_eq_some_iff.mp ev
   exact ⟨q,List.mem_of_find?_eq_some hq,(by have z:=List.find?_some hq; simpa using z),e⟩
 obtain ⟨q,hq,e1,e⟩:=hm
 obtain ⟨n',z,ez1,ez,pz⟩:=hv q hq
 rw [e1] at ez1
 cases ez1
 rw [<- e,ez] at ev
 show dW L (.inr n)=some (.int (((dW L (.inr n)).map intOf).getD 0))/\P n (((dW L (.inr n)).map intOf).getD 0)
 rw [ev]
 exact ⟨rfl,pz⟩
theorem Q8 {t u:TS} {D:Ends} {σ:St} {H:Hp} (N:St->Hp->Prop) (h:∀ U:St->Hp->Prop,(∀ σ' H',N σ' H'->U σ' H')->t { D with nx:=U } σ H) (hN:∀ σ' H',N σ' H'->u D σ' H'):nA t u D σ H:=h (u D) hN
section
variable {H1:Hp} {D:Addr} {σ0:St} {g:BI->TG} {te:BI->TE} {End:Hp->Prop} {α β:Type}
theorem pL {K:PySem.W.Frag} {R:V->α->Prop} {R':Hp->V->β->Prop} {a:Addr} {xs:List V} {bs:List α} {f:α->β} (mono:∀ {H H':Hp} {v b},dX H H'->R' H v b->R' H' v b) (hD:H1 D=none) (hT:H1 a=some (.tup xs)) (few:xs.length<=1000) (pr:Paired R xs bs)
   (turn:∀ (x:V) (c:α) (H':Hp),c∈bs->R x c->Same H1 H'->∀ b (Q:VK),(∀ v jT,Same H' jT->R' jT v (f c)->Q v jT)->g b x σ0 H' fun σ2 H2=>te b σ2 H2 Q)
   (fin:∀ vs H',Same H1 H'->H' D=some (.lst vs)->Paired (R' H') vs (bs.map f)->End H') :
   ∃ W:Nat->Nat->Hp->Prop,(∃ m,W 0 m (upd H1 D (.lst [])))/\∀ b,nY (RP K a) (g b) (En) (nZ D (te b)) σ0 End W :=
 Bq (xs:=xs) (fun i H'=>∃ zs,fB H1 H' D zs/\Paired (R' H') zs ((bs.take i).map f)) ⟨[],fB.start hD,.nil⟩ (fun i H' _ hz=>by obtain ⟨_,G,_⟩:=hz; exact bM.of (G.same _ _ hT)) (fun H' hz=>by
   obtain ⟨zs,G,pz⟩:=hz
   rw [pr.length,List.take_length] at pz
   exact fin zs H' G.same G.at' pz) (fun i x H' hx hi hz b=>by
   obtain ⟨zs,G,pz⟩:=hz
   obtain ⟨c,hc,rc⟩:=aQ pr hx
   refine turn x c H' (List.mem_of_getElem? hc) rc G.same b _ fun v jT s hv=>?_
   have mJ:sizeLine=16777216:=sizeLine_eq
   have lz:=pz.length
   rw [List.length_map,List.length_take] at lz
   have G2:=G.more s
   have tt:dX jT (upd jT D (.lst (zs++[v]))):=fun c ys e=>by rw [aL (fun z=>by rw [z,G2.at'] at e; cases e)]; exact e
   refine ⟨zs,G2.at',by omega,nx hi ⟨zs++[v],G2.put hD v,?_⟩⟩
   rw [List.take_add_one,hc,List.map_append]
   exact fJ (aO (fun _ _ z=>mono (s.tups.trans tt) z) pz) (.cons (mono tt hv) .nil))
end
end mW
namespace mW
open PySem L2 gY
def nC (b:Int) (r:Row):Row:=(r.1,r.2+b)
def rC (b:Int) (h:aJ):aJ:=⟨h.name,h.low,h.high,h.aK,h.runs.map fun r=>r.map (nC b)⟩
def Af:Sp:=fun vs H Q _=>∃ (x:V) (b:Int) (hs:List aJ) (ls:List Letter),vs=[x,.int b]/\cU H x hs ls/\bw hs/\∀ (v:V) (H':Hp),cU H' v (hs.map (rC b)) ls->Same H H'->Q v H'
def PMv (x:V) (b:Int) (F:Addr) (hs:List aJ) (H:Hp):Nat->St->Hp->Prop:=fun i σ H'=>∃ (ws:List V) (o3 o4 o5 o6 o7 o8:Option V),σ=[some x,some (.int b),some (.ref F),o3,o4,o5,o6,o7,o8]/\H' F=some (.lst ws)/\Paired (fj H') ws ((hs.take i).map (rC b))/\Same H H'
section
variable {P:Program} {w:World} {K:PySem.W.Frag} {mg:Str->Option Value} {base:Heap} {t8:Tok}
theorem jD:bG ["_law_ledger_here","_law_by","_law_found","_law_name","_law_low","_law_high","_law_drift","_law_runs","_law_moved_here"] ["_law_ledger_here","_law_by"] (aA oK):=⟨rfl,rfl,rfl,by decide +kernel,rfl,by decide +kernel,by decide +kernel⟩
theorem Q9 {f:Addr} {fd:FuncData} (F:nG K "_law_moved" "_law_moved" oK f fd) (T:Txt mg t8):aX P w K mg base dM 1 f fd ["_law_ledger_here","_law_by"] Af:=by
 refine F.ok jD (fun vs H Q E h=>?_) (fun cdv A outer s H vs Q E hr h=>?_)
 . obtain ⟨x,b,hs,ls,rfl,_⟩:=h
   rfl
 . obtain ⟨x,b,hs,ls,rfl,⟨a,y,z,rfl,ha,⟨c,vh,rfl,hc,ph⟩,hL⟩,gh,q⟩:=h
   have mJ:sizeLine=16777216:=sizeLine_eq
   refine ⟨_,(au (aV (i:=2) jD.nd rfl (Or.inl rfl) (fQ ak)) (au (cY PassesOwn.never rfl (cX (cP jC (pV 0) aD (fun _ _=>rfl))) (cT rfl (aG (aB (i:=3) jD.nd rfl (Or.inl rfl)) (aG (aB (i:=4) jD.nd rfl (Or.inl rfl)) (aG (aB (i:=5) jD.nd rfl (Or.inl rfl)) (aG (aB (i:=6) jD.nd rfl (Or.inl rfl)) (aG (aB (i:=7) jD.nd rfl (Or.inl rfl)) bR)))))) (au (qg (i:=8) jD.nd rfl rfl (g8:=aA oK) (own:=["_law_run"]) (cap:=["_law_by"]) (ix:=[1]) rfl rfl ⟨rfl,by decide +kernel,by decide +kernel,by decide +kernel,rfl,by decide +kernel⟩ (cX (pV 7)) (fun b=>(aB (i:=0) (show (["_law_run","_law_by"]:List Str).Nodup by decide +kernel) rfl (Or.inl rfl))) (fun b=>bU) (fun b=>(dB bY rfl T.tuple PyProof.Rows.boot_tuple (aj (dJ (g8:=(lH ({ kind:=.function,names:=[(Str.ofString ".0",.local),(Str.ofString "_law_run",.local),(Str.ofString "tuple",.globalImplicit),(Str.ofString "_law_by",.free)],isGenerator:=false,isCoroutine:=false }:Scope) (aA oK))) (own:=["_law_row","_law_reading"]) (cap:=["_law_by"]) (ix:=[1]) rfl rfl ⟨rfl,by decide +kernel,by decide +kernel,by decide +kernel,rfl,by decide +kernel⟩ (cX (pV 0)) (fun b=>(cT rfl (aG (aB (i:=0) (show (["_law_row","_law_reading","_law_by"]:List Str).Nodup by decide +kernel) rfl (Or.inl rfl)) (aG (aB (i:=1) (show (["_law_row","_law_reading","_law_by"]:List Str).Nodup by decide +kernel) rfl (Or.inl rfl)) bR)))) (fun b=>bU) (fun b=>(bI (aj (pV 0) (aj (aY gF (pV 1) (pV 2)) ak))))) ak)))) (aH (gB (j9 PySem.F.plainAttrs_list PySem.F.slot_list_append PySem.F.type_list_append dD (pV 2) (aj (bI (aj (pV 3) (aj (pV 4) (aj (pV 5) (aj (pV 6) (aj (dB bY rfl T.tuple PyProof.Rows.boot_tuple (aj (pV 8) ak)) ak)))))) ak)))))) (aH (aZ (bI (aj (dB bY rfl T.tuple PyProof.Rows.boot_tuple (aj (pV 2) ak)) (aj (cP jC (pV 0) aD (fun _ _=>rfl)) ak))))))),?_⟩
   refine ⟨Nat.zero_le _,fun F fF=>?_⟩
   have s1:Same H (upd H F (.lst [])):=(Same.refl H).upd fF
   refine gj (bM.of (s1 _ _ ha)) (i:=0) (v:=.ref c) (by rfl) ?_
   have h6:=gh.hi
   have lh:=ph.length
   refine ⟨c,rfl,⟨_,bM.of (s1 _ _ hc)⟩,gP (xs:=vh) (PMv (.ref a) b F hs H) ⟨[],none,none,none,none,none,none,rfl,aq,.nil,s1⟩ (fun i σ H' _ hz=>by obtain ⟨_,_,_,_,_,_,_,_,_,_,s⟩:=hz; exact bM.of (s _ _ hc)) (fun i v σ H2 hv hz=>?_) (fun σ H2 hz=>?_)⟩
   . obtain ⟨ws,o3,o4,o5,o6,o7,o8,rfl,eF,pw,s⟩:=hz
     obtain ⟨hh,hhi,ht⟩:=aQ ph hv
     obtain ⟨c1,b1,rfl,e1,c5,vr,rfl,e5,pr⟩:=ht
     have gd:=gh.all hh (List.mem_of_getElem? hhi)
     refine ⟨c1,_,rfl,bM.of (s _ _ e1),rfl,_,_,rfl,_,_,rfl,_,_,rfl,_,_,rfl,_,_,rfl,rfl,?_⟩
     have lr:=pr.length
     have few:=gd.few
     refine ⟨c5,rfl,⟨_,bM.of (s _ _ e5)⟩,fun D hD=>pL (R':=gH) (f:=fun r:List Row=>r.map (nC b)) (fun t z=>z.ts t) hD (s _ _ e5) (by omega) pr (fun x rs H3 hrs rx s3 bb R hR=>?_) (fun zs H3 s3 eD pz=>?_)⟩
     . obtain ⟨c2,w2,rfl,e2,p2⟩:=rx
       have gr:=(gd.runs rs hrs).few
       have l2:=p2.length
       refine ⟨c2,rfl,⟨_,bM.of ((s.trans s3) _ _ e2)⟩,fun D2 hD2=>pL (R':=dZ) (f:=nC b) (fun t z=>z.ts t) hD2 ((s.trans s3) _ _ e2) (by omega) p2 (fun x r H4 hr' rr s4 bb2 R2 hR2=>?_) (fun zs H4 s4 eD2 pz=>?_)⟩
       . obtain ⟨c3,rfl,e3⟩:=rr
         refine ⟨c3,_,rfl,bM.of (((s.trans s3).trans s4) _ _ e3),rfl,_,_,rfl,_,_,rfl,rfl,?_⟩
         refine ⟨by show 2<=sizeLine; omega,fun p hp=>?_⟩
         exact hR2 _ _ ((Same.refl H4).upd hp) ⟨p,rfl,aq⟩
       . have lz:=pz.length
         rw [List.length_map] at lz
         refine ⟨D2,zs,rfl,.inl ⟨dg.of eD2,fun l hl=>?_⟩⟩
         have s5:Same H4 (upd H4 l (.tup zs)):=(Same.refl H4).upd hl
         exact hR _ _ (s4.trans s5) ⟨l,zs,rfl,aq,aO (fun _ _ z=>z.ts s5.tups) pz⟩
     . have eF3:=s3 _ _ eF
       refine ⟨.inl ⟨rfl,_,dg.of eF3⟩,?_⟩
       refine ⟨D,zs,rfl,.inl ⟨dg.of eD,fun l hl=>?_⟩⟩
       have s5:Same H3 (upd H3 l (.tup zs)):=(Same.refl H3).upd hl
       have e5':upd H3 l (.tup zs) l=some (.tup zs):=aq
       generalize upd H3 l (.tup zs)=H4 at s5 e5' ⊢
       refine ⟨by show 5<=sizeLine; omega,fun p hp=>?_⟩
       have s6:Same H4 (upd H4 p (.tup [.str hh.name,.int hh.low,.int hh.high,.int hh.aK,.ref l])):=(Same.refl H4).upd hp
       have e6:upd H4 p (.tup [.str hh.name,.int hh.low,.int hh.high,.int hh.aK,.ref l]) p=some (.tup [.str hh.name,.int hh.low,.int hh.high,.int hh.aK,.ref l]):=aq
       generalize upd H4 p (.tup [.str hh.name,.int hh.low,.int hh.high,.int hh.aK,.ref l])=H5 at s6 e6 ⊢
       have lw:=pw.length
       rw [List.length_map,List.length_take] at lw
       have eF5:=s6 _ _ (s5 _ _ eF3)
       refine ⟨F,ws,.ref p,rfl,rfl,eF5,by omega,?_⟩
       have tt:dX H5 (upd H5 F (.lst (ws++[.ref p]))):=fun c ys e=>by rw [aL (fun z=>by rw [z,eF5] at e; cases e)]; exact e
       refine ⟨ws++[.ref p],_,_,_,_,_,_,rfl,aq,?_,fun b o e=>by rw [aL (fun z=>by rw [z,fF] at e; cases e)]; exact s6 _ _ (s5 _ _ (s3 _ _ (s _ _ e)))⟩
       rw [List.take_add_one,hhi,List.map_append]
       exact fJ (aO (fun _ _ z=>z.ts (((s3.trans s5).trans s6).tups.trans tt)) pw) (.cons ⟨p,.ref l,rfl,tt _ _ e6,l,zs,rfl,tt _ _ (s6 _ _ e5'),aO (fun _ _ z=>z.ts ((s5.trans s6).tups.trans tt)) pz⟩ .nil)
   . obtain ⟨ws,o3,o4,o5,o6,o7,o8,rfl,eF,pw,s⟩:=hz
     rw [lh,List.take_length] at pw
     refine ⟨F,ws,rfl,.inl ⟨dg.of eF,fun l hl=>?_⟩⟩
     have s5:Same H2 (upd H2 l (.tup ws)):=(Same.refl H2).upd hl
     have e5:upd H2 l (.tup ws) l=some (.tup ws):=aq
     generalize upd H2 l (.tup ws)=H3 at s5 e5 ⊢
     refine gj (bM.of (s5 _ _ (s _ _ ha))) (i:=1) (v:=z) (by rfl) ?_
     refine ⟨by show 2<=sizeLine; omega,fun p hp=>?_⟩
     have s6:Same H3 (upd H3 p (.tup [.ref l,z])):=(Same.refl H3).upd hp
     exact q _ _ ⟨p,.ref l,z,rfl,aq,⟨l,ws,rfl,s6 _ _ e5,aO (fun _ _ z=>z.ts (s5.trans s6).tups) pw⟩,hL.ts ((s.trans s5).trans s6).tups⟩ ((s.trans s5).trans s6)
end
end mW
namespace mW
open PySem L2 gY
section
variable {σ:St} {H:Hp} {te:TE} {d:Da} {xs:List Da} {K:PySem.W.Frag}
theorem Ra {k:Nat} (h:TD te σ H (.tup xs)) (e:xs[k]?=some d):TD (wQ (IxT K) te (tC (.int (k:Int)))) σ H d:=⟨fun H1 s Q q =>
 h.r H1 s _ fun v H2 s2 hv=>by
   obtain ⟨a,vs,rfl,ea,la,ra⟩:=hv.iw
   obtain ⟨w,hw⟩:∃ w,vs[k]?=some w:=⟨_,List.getElem?_eq_getElem (by rw [ra.len]; exact (List.getElem?_eq_some_iff.mp e).1)⟩
   obtain ⟨d',hd',da⟩:=ra.get hw
   rw [e] at hd'
   cases hd'
   exact gj (bM.of ea) (gQ hw) (q w H2 s2 da)⟩
end
section
variable {σ:St} {H:Hp} {te ta tb:TE} {ts:TA} {D:Ends} {Q:VK} {Qs:List V->Hp->Prop} {r:R2}
theorem ab4 (h:te σ H D.rt):WX te D σ H:=h
theorem Wu (h:ts σ H fun xs H1=>xs.length<=sizeLine/\∀ p,H1 p=none->Q (.ref p) (upd H1 p (.tup xs))):mF ts σ H Q:=h
theorem Rb (h:te σ H fun x H1=>ts σ H1 fun xs H2=>Qs (x :: xs) H2):cj te ts σ H Qs:=h
theorem Zv (h:ta σ H fun x H1=>tb σ H1 fun y H2=>r x y H2 Q):wQ r ta tb σ H Q:=h
end
structure qC (h:aJ) (rs:List (List Row)):Prop where
 good:∀ r∈rs,pF r
 flat:rs.flatten=h.runs.flatten
 few:rs.length<=25
 sub:∀ r∈rs,∃ r0∈h.runs,∀ q∈r,q∈r0
theorem qC.same {h:aJ} (g:cD h):qC h h.runs:=⟨g.runs,rfl,g.few,fun r hr=>⟨r,hr,fun _ z=>z⟩⟩
theorem qC.cut {h:aJ} {r0:List Row} {rest:List (List Row)} (e:h.runs=r0 :: rest) (g:cD h) (l:1<r0.length) (few:h.runs.length<=24):qC h (r0.take 1 :: r0.drop 1 :: rest):=by
 have g0:=g.runs r0 (by rw [e]; exact List.mem_cons_self)
 have fe:=g0.few
 refine ⟨fun r hr=>?_,?_,?_,fun r hr=>?_⟩
 . rcases List.mem_cons.mp hr with rfl | hr
   . exact ⟨fun z=>by have:=congrArg List.length z; rw [List.length_take,List.length_nil] at this; omega,by rw [List.length_take]; omega,fun q hq=>g0.names q (List.mem_of_mem_take hq),by rw [List.map_take]; exact List.Pairwise.sublist (List.take_sublist _ _) g0.rise⟩
   rcases List.mem_cons.mp hr with rfl | hr
   . exact ⟨fun z=>by have:=congrArg List.length z; rw [List.length_drop,List.length_nil] at this; omega,by rw [List.length_drop]; omega,fun q hq=>g0.names q (List.mem_of_mem_drop hq),by rw [List.map_drop]; exact List.Pairwise.sublist (List.drop_sublist _ _) g0.rise⟩
   . exact g.runs r (by rw [e]; exact List.mem_cons_of_mem _ hr)
 . rw [e,List.flatten_cons,List.flatten_cons,List.flatten_cons,<- List.append_assoc,List.take_append_drop]
 . rw [e] at few; simp only [List.length_cons] at few ⊢; omega
 . rcases List.mem_cons.mp hr with rfl | hr
   . exact ⟨r0,by rw [e]; exact List.mem_cons_self,fun q hq=>List.mem_of_mem_take hq⟩
   rcases List.mem_cons.mp hr with rfl | hr
   . exact ⟨r0,by rw [e]; exact List.mem_cons_self,fun q hq=>List.mem_of_mem_drop hq⟩
   . exact ⟨r,by rw [e]; exact List.mem_cons_of_mem _ hr,fun _ z=>z⟩
theorem Mg {h:aJ} {lo hi dr:Int} {rs:List (List Row)} (p:qC h rs) (l:lo<=h.low) (u:h.high<=hi) (d:h.aK<=dr) {m:Str->Int} (k:fM h m=true):fM ⟨h.name,lo,hi,dr,rs⟩ m=true:=by
 obtain ⟨a,b,c⟩:=cA.mp k
 refine cA.mpr ⟨fun r hr=>?_,?_,fun r hr=>?_⟩
 . have hr':r∈h.runs.flatten:=p.flat ▸ hr
   have z:=a r hr'
   unfold jd at z ⊢
   rw [Bool.and_eq_true] at z ⊢
   have z1:=of_decide_eq_true z.1
   have z2:=of_decide_eq_true z.2
   exact ⟨decide_eq_true (by show lo<=_; omega),decide_eq_true (by show _<=hi; omega)⟩
 . show je m (rs.flatten.map Prod.fst)=true
   rw [p.flat]; exact b
 . obtain ⟨r0,h0,sb⟩:=p.sub r hr
   have z:=c r0 h0
   unfold cF offs at z ⊢
   have z':=of_decide_eq_true z
   refine decide_eq_true fun x hx y hy=>?_
   obtain ⟨q1,h1,rfl⟩:=List.mem_map.mp hx
   obtain ⟨q2,h2,rfl⟩:=List.mem_map.mp hy
   have:=z' _ (List.mem_map_of_mem (sb q1 h1)) _ (List.mem_map_of_mem (sb q2 h2))
   show q1.2-m q1.1-(q2.2-m q2.1)<=dr
   omega
theorem Rc {hs:List aJ} {ls:List Letter} {k:Nat} {h h':aJ} {m:Str->Int} (km:fM h m=true->fM h' m=true) (e:hs[k]?=some h) (p:cR hs ls m=true):cR (lC hs k h') ls m=true:=by
 refine uJ (fun z hz=>?_) fun l hl=>List.all_eq_true.mp (Bool.and_eq_true_iff.mp p).2 l hl
 have a:=fun z hz=>List.all_eq_true.mp (Bool.and_eq_true_iff.mp p).1 z hz
 rcases Cy hz with q | q
 . exact a z q
 . rw [q]; exact km (a h (List.mem_of_getElem? e))
theorem DG {α:Type} {l:List α} {j:Nat} {x:α} (h:x∈l.take j++l.drop (j+1)):x∈l:=(List.mem_append.mp h).elim List.mem_of_mem_take List.mem_of_mem_drop
theorem Ve {hs:List aJ} {ls:List Letter} {j:Nat} (g:bx hs ls):bx hs (ls.take j++ls.drop (j+1)):=by
 have sub:(ls.take j++ls.drop (j+1)).Sublist ls:=by
   conv=>rhs; rw [<- List.take_append_drop j ls]
   exact List.Sublist.append (List.Sublist.refl _) (by rw [<- List.drop_drop]; exact List.drop_sublist _ _)
 exact ⟨Nat.le_trans sub.length_le g.few,fun l hl=>g.all l (DG hl),List.Pairwise.sublist (sub.map _) g.rise⟩
theorem Mh {hs:List aJ} {ls:List Letter} {j:Nat} {m:Str->Int} (p:cR hs ls m=true):cR hs (ls.take j++ls.drop (j+1)) m=true :=
 uJ (fun h hh=>List.all_eq_true.mp (Bool.and_eq_true_iff.mp p).1 h hh) fun l hl=>List.all_eq_true.mp (Bool.and_eq_true_iff.mp p).2 l (DG hl)
theorem wF {H:Hp} {v:V} {hs:List aJ} {ls:List Letter} (h:bA H v (.tup [lK hs,jN ls])):cU H v hs ls:=by
 obtain ⟨a,vs,rfl,e,_,r⟩:=h.iw
 obtain ⟨v1,v2,rfl,r1,r2⟩:=r.two
 exact ⟨a,v1,v2,rfl,e,gJ.off r1,fW.off r2⟩
def sS:Sp:=fun vs H Q _=>∃ (p:Addr) (x:V) (hs:List aJ) (ls:List Letter),vs=[.ref p,x]/\bD H p/\cU H x hs ls/\bw hs/\bx hs ls /\
 ∀ (v:V) (hs':List aJ) (ls':List Letter) (H':Hp),cU H' v hs' ls'->bw hs'->bx hs' ls'->namesOf hs'=namesOf hs->(∀ m,cR hs ls m=true->cR hs' ls' m=true)->bD H' p->aP p H H'->Q v H'
section
variable {P:Program} {w:World} {K:PySem.W.Frag} {mg:Str->Option Value} {base:Heap} {t8:Tok}
theorem dH:bG ["_law_pack_here","_law_ledger_here","_law_houses","_law_letters_here","_law_at","_law_name","_law_low","_law_high","_law_drift","_law_runs","_law_pick","_law_k","_law_more"] ["_law_pack_here","_law_ledger_here"] (aA lV):=⟨rfl,rfl,rfl,by decide +kernel,rfl,by decide +kernel,by decide +kernel⟩
theorem GJ {f dG:Addr} {fd dU:FuncData} (F:nG K "_law_more_let" "_law_more_let" lV f fd) (T:Txt mg t8)
   (cH:aX P w K mg base dM 1 dG dU ["_law_pack_here","_law_size"] mR) (cI:mg "_law_take" = some (.ref dG)) (cJ:PySem.W.keepIn K (.ref dG)=true) (cL:Binds K dU ["_law_pack_here","_law_size"] []):aX P w K mg base dM 2 f fd ["_law_pack_here","_law_ledger_here"] sS:=by
 refine F.ok dH (fun vs H Q E h=>?_) (fun cdv A outer s H vs Q E hr h=>?_)
 . obtain ⟨p,x,hs,ls,rfl,_⟩:=h
   rfl
 . obtain ⟨p,x,hs,ls,rfl,hp,hx0,gh,gl,q⟩:=h
   have mJ:sizeLine=16777216:=sizeLine_eq
   have lh6:=gh.hi
   have lh1:=gh.lo
   have Wj:=gl.few
   obtain ⟨a,us,rfl,ea,_,ru⟩:=(hx0.da gh gl).iw
   obtain ⟨vh,vl,rfl,hH0,hL0⟩:=ru.two
   have hH:bA H vh (.tup (hs.map jK)):=hH0
   have hL:bA H vl (.tup (ls.map lM)):=hL0
   refine ⟨_,(Tg.h (eZ (Oi (qV 1) (Fg rfl (iR (iQ (i:=2) dH.nd rfl (Or.inl rfl)) (iR (iQ (i:=3) dH.nd rfl (Or.inl rfl)) yZ)))) (eZ (mO (i:=4) dH.nd rfl (Or.inl rfl) (uD cH hr rfl cI cJ cL .nil bf (aC (qV 0) (aC (qN ⟨bT⟩ rfl T.len PySem.boot_len (aC (qV 2) bh)) bh)))) (eZ (Oi (BL ⟨jC⟩ (qV 2) (qV 4) (fun _ _=>rfl)) (Fg rfl (iR (iQ (i:=5) dH.nd rfl (Or.inl rfl)) (iR (iQ (i:=6) dH.nd rfl (Or.inl rfl)) (iR (iQ (i:=7) dH.nd rfl (Or.inl rfl)) (iR (iQ (i:=8) dH.nd rfl (Or.inl rfl)) (iR (iQ (i:=9) dH.nd rfl (Or.inl rfl)) yZ))))))) (eZ (mO (i:=10) dH.nd rfl (Or.inl rfl) (uD cH hr rfl cI cJ cL .nil bf (aC (qV 0) (aC cu bh)))) (eZ (Oj (V5 (qtC ⟨oEq⟩ (qV 10) cu (bJ _)) (Ih (qtC ⟨(abl hr.Ei)⟩ (qV 3) (cZ bh) (bJ _)))) (eZ (mO (i:=11) dH.nd rfl (Or.inl rfl) (uD cH hr rfl cI cJ cL .nil bf (aC (qV 0) (aC (qN ⟨bT⟩ rfl T.len PySem.boot_len (aC (qV 3) bh)) bh)))) (kE (Fi (cZ (aC (qV 2) (aC (iM ⟨ou⟩ (dN ⟨mK⟩ (qV 3) eY (BP (qV 11))) (dN ⟨mK⟩ (qV 3) (BP (iM ⟨gF⟩ (qV 11) cu)) eY)) bh)))))) za) (eZ (Oj (V5 (qtC ⟨oEq⟩ (qV 10) cu (bJ _)) (Yj (qtC ⟨(abl hr.Ei)⟩ (qV 9) (cZ bh) (bJ _)) (Ih (qtC ⟨Sv⟩ (qN ⟨bT⟩ rfl T.len PySem.boot_len (aC (BL ⟨jC⟩ (qV 9) cu (fun _ _=>rfl)) bh)) cu (bJ _))))) (kE (mO (i:=9) dH.nd rfl (Or.inl rfl) (iM ⟨ou⟩ (cZ (aC (dN ⟨mK⟩ (BL ⟨jC⟩ (qV 9) cu (fun _ _=>rfl)) eY (BP cu)) (aC (dN ⟨mK⟩ (BL ⟨jC⟩ (qV 9) cu (fun _ _=>rfl)) (BP cu) eY) bh))) (dN ⟨mK⟩ (qV 9) (BP cu) eY)))) za) (eZ (mO (i:=12) dH.nd rfl (Or.inl rfl) (mL (aC (cZ (aC (qV 5) (aC (iM ⟨jB⟩ (qV 6) cu) (aC (qV 7) (aC (qV 8) (aC (qV 9) bh)))))) (aC (cZ (aC (qV 5) (aC (qV 6) (aC (iM ⟨gF⟩ (qV 7) cu) (aC (qV 8) (aC (qV 9) bh)))))) (aC (cZ (aC (qV 5) (aC (qV 6) (aC (qV 7) (aC (iM ⟨gF⟩ (qV 8) cu) (aC (qV 9) bh)))))) bh))))) (kE (Fi (cZ (aC (iM ⟨ou⟩ (iM ⟨ou⟩ (dN ⟨mK⟩ (qV 2) eY (BP (qV 4))) (cZ (aC (BL ⟨Eo⟩ (qV 12) (uD cH hr rfl cI cJ cL .nil bf (aC (qV 0) (aC cu bh))) (fun _ _=>rfl)) bh))) (dN ⟨mK⟩ (qV 2) (BP (iM ⟨gF⟩ (qV 4) cu)) eY)) (aC (qV 3) bh))))))))))))),?_⟩
   refine Ip fun Uz Zw=>?_
   refine ⟨a,_,rfl,bM.of ea,rfl,_,_,rfl,_,_,rfl,rfl,?_⟩
   subst Zw
   show nA (nJ _ _) _ _ [some (.ref p),some (.ref a),some vh,some vl,none,none,none,none,none,none,none,none,none] H
   obtain ⟨ch,wh,rfl,ech,_,rh⟩:=hH.iw
   obtain ⟨cl,wl,rfl,ecl,_,rl⟩:=hL.iw
   have lwh:=rh.len
   rw [List.length_map] at lwh
   have lwl:=rl.len
   rw [List.length_map] at lwl
   refine Ip fun Uz Zw=>?_
   refine ⟨ch,wh,rfl,.inr (bM.of ech),?_⟩
   refine ⟨p,(wh.length:Int),rfl,hp,by omega,by omega,fun kk H1 kk0 kk1 hp1 sb1=>?_⟩
   obtain ⟨k,rfl⟩:=Int.eq_ofNat_of_zero_le kk0
   have k1:=uG hp hp1 sb1
   have lk:k<hs.length:=by omega
   obtain ⟨h,hk⟩:∃ h,hs[k]?=some h:=⟨_,List.getElem?_eq_getElem lk⟩
   obtain ⟨vk,hvk⟩:∃ v,wh[k]?=some v:=⟨_,List.getElem?_eq_getElem (by omega)⟩
   obtain ⟨dk,hdk,avk⟩:=rh.get hvk
   rw [List.getElem?_map,hk] at hdk
   obtain rfl:jK h=dk:=Option.some.inj hdk
   have hm:=List.mem_of_getElem? hk
   have gd:=gh.all h hm
   have lr:h.runs.length<=24:=Pz gh hm
   subst Zw
   show nA (nJ _ _) _ _ [some (.ref p),some (.ref a),some (.ref ch),some (.ref cl),some (.int (k:Int)),none,none,none,none,none,none,none,none] H1
   refine Ip fun Uz Zw=>?_
   refine gj (bM.of (k1.tup _ _ ech)) (v:=vk) (gQ hvk) ?_
   obtain ⟨ck,uk,rfl,eck,_,rk⟩:=avk.iw
   obtain ⟨w1,w2,w3,w4,w5,rfl,hN,q2,q3,q4,hR0⟩:=rk.five
   cases q2
   cases q3
   cases q4
   have hR:bA H w5 (.tup (h.runs.map jF)):=hR0
   refine ⟨ck,_,rfl,bM.of (k1.tup _ _ eck),rfl,_,_,rfl,_,_,rfl,_,_,rfl,_,_,rfl,_,_,rfl,rfl,?_⟩
   subst Zw
   show nA (nJ _ _) _ _ [some (.ref p),some (.ref a),some (.ref ch),some (.ref cl),some (.int (k:Int)),some w1,some (.int h.low),some (.int h.high),some (.int h.aK),some w5,none,none,none] H1
   refine Ip fun Uz Zw=>?_
   refine ⟨p,5,rfl,hp1,by decide,by decide,fun pk H2 pk0 pk1 hp2 Ij=>?_⟩
   have k2:=k1.trans (uG hp1 hp2 Ij)
   have SB2:aP p H H2:=sb1.trans Ij
   subst Zw
   show nA (Ec _ _ _) _ _ [some (.ref p),some (.ref a),some (.ref ch),some (.ref cl),some (.int (k:Int)),some w1,some (.int h.low),some (.int h.high),some (.int h.aK),some w5,some (.int pk),none,none] H2
   refine mQ (fun σ' H'=>σ'=[some (.ref p),some (.ref a),some (.ref ch),some (.ref cl),some (.int (k:Int)),some w1,some (.int h.low),some (.int h.high),some (.int h.aK),some w5,some (.int pk),none,none]/\bD H' p/\Kp H H'/\aP p H H') (fun U hU=>?_) (fun σ' H3 hz=>?_)
   . refine j7 (fun c1=>?_) (fun c1=>hU _ _ ⟨rfl,hp2,k2,SB2⟩)
     refine ⟨Nat.zero_le _,fun e0 Zx=>?_⟩
     have s4:Same H2 (upd H2 e0 (.tup [])):=(Same.refl _).upd Zx
     have Ge:bD (upd H2 e0 (.tup [])) p:=hp2.new Zx
     refine ⟨⟨cl,e0,wl,rfl,rfl,s4 _ _ (k2.tup _ _ ecl),aq,?_⟩⟩
     generalize upd H2 e0 (.tup [])=H4 at s4 Ge
     have k4:Kp H H4:=k2.trans (Kp.of s4)
     have Wv:aP p H H4:=SB2.trans (aP.of s4)
     refine j7 (fun c2=>?_) (fun c2=>hU _ _ ⟨rfl,Ge,k4,Wv⟩)
     have nl:0<wl.length:=by
       cases wl with
       | nil=>exact absurd c2 (by decide)
       | cons _ _=>exact Nat.succ_pos _
     refine abu ⟨cl,wl,rfl,.inr (bM.of (k4.tup _ _ ecl)),?_⟩
     refine ⟨p,(wl.length:Int),rfl,Ge,by omega,by omega,fun jj H5 jj0 jj1 YH sb5=>?_⟩
     obtain ⟨j,rfl⟩:=Int.eq_ofNat_of_zero_le jj0
     have k5:=k4.trans (uG Ge YH sb5)
     have SB5:aP p H H5:=Wv.trans sb5
     refine TD.use (σ:=[some (.ref p),some (.ref a),some (.ref ch),some (.ref cl),some (.int (k:Int)),some w1,some (.int h.low),some (.int h.high),some (.int h.aK),some w5,some (.int pk),some (.int (j:Int)),none]) (te:=mF _) (bN (ao (qU (hH.kp k5)) (ao (mU (Cq (k:=j) (qW (hL.kp k5)) (jG (rR (.int _)))) (jw (k:=j+1) (qW (hL.kp k5)) (jG (Im (rR (.int _))))) (by simp only [List.length_map,List.length_take,List.length_drop]; omega)) aW)) (by exact Nat.le_of_ble_eq_true rfl)) (Same.refl _) fun v H7 s7 hv=>?_
     refine q v hs (ls.take j++ls.drop (j+1)) H7 (wF ?_) gh (Ve gl) rfl (fun m=>Mh) (cg YH s7) (SB5.trans (aP.of s7))
     have e:jN (ls.take j++ls.drop (j+1))=.tup ((ls.map lM).take j++(ls.map lM).drop (j+1)):=by
       unfold jN
       rw [List.map_append,List.map_take,List.map_drop]
     rw [e]
     exact hv
   obtain ⟨rfl,hp3,k3,YQ⟩:=hz
   refine mQ (fun σ' H'=>∃ (rs:List (List Row)) (v9:V),σ'=[some (.ref p),some (.ref a),some (.ref ch),some (.ref cl),some (.int (k:Int)),some w1,some (.int h.low),some (.int h.high),some (.int h.aK),some v9,some (.int pk),none,none]/\qC h rs/\bA H' v9 (.tup (rs.map jF))/\bD H' p/\Kp H H'/\aP p H H') (fun U hU=>?_) (fun σ' H4 hz=>?_)
   . refine j7 (fun c1=>?_) (fun c1=>hU _ _ ⟨_,_,rfl,.same gd,hR.kp k3,hp3,k3,YQ⟩)
     obtain ⟨cr,wr,rfl,ecr,_,rr⟩:=hR.iw
     have lwr:=rr.len
     rw [List.length_map] at lwr
     refine ⟨Nat.zero_le _,fun e0 Zx=>?_⟩
     have s4:Same H3 (upd H3 e0 (.tup [])):=(Same.refl _).upd Zx
     have Ge:bD (upd H3 e0 (.tup [])) p:=hp3.new Zx
     refine ⟨⟨cr,e0,wr,rfl,rfl,s4 _ _ (k3.tup _ _ ecr),aq,?_⟩⟩
     generalize upd H3 e0 (.tup [])=H4 at s4 Ge
     have k4:Kp H H4:=k3.trans (Kp.of s4)
     have Wv:aP p H H4:=YQ.trans (aP.of s4)
     refine j7 (fun c2=>?_) (fun c2=>hU _ _ ⟨_,_,rfl,.same gd,hR.kp k4,Ge,k4,Wv⟩)
     cases er:h.runs with
     | nil =>
       rw [er] at lwr
       have:wr=[]:=List.eq_nil_of_length_eq_zero lwr
       rw [this] at c2
       exact absurd c2 (by decide)
     | cons r0 rest =>
       obtain ⟨v0,hv0⟩:∃ v,wr[0]?=some v:=⟨_,List.getElem?_eq_getElem (by rw [lwr,er]; exact Nat.succ_pos _)⟩
       obtain ⟨d0,hd0,da0⟩:=rr.get hv0
       rw [List.getElem?_map,er] at hd0
       cases hd0
       obtain ⟨c0,u0,rfl,ec0,_,r00⟩:=da0.iw
       refine gj (bM.of (k4.tup _ _ ecr)) (i:=0) (v:=.ref c0) (gQ hv0) ?_
       refine ⟨c0,u0,rfl,.inr (bM.of (k4.tup _ _ ec0)),?_⟩
       have lu:=r00.len
       rw [List.length_map] at lu
       refine j7 (fun c3=>?_) (fun c3=>hU _ _ ⟨_,_,rfl,.same gd,hR.kp k4,Ge,k4,Wv⟩)
       have l0:1<r0.length:=by have z:(1:Int)<(u0.length:Int):=of_decide_eq_true c3; omega
       have Zy:bA H4 (.ref cr) (.tup (h.runs.map jF)):=hR.kp k4
       have g0:=(gd.runs r0 (by rw [er]; exact List.mem_cons_self)).few
       have lr2:=lr
       rw [er] at lr2
       refine TD.use (σ:=[some (.ref p),some (.ref a),some (.ref ch),some (.ref cl),some (.int (k:Int)),some w1,some (.int h.low),some (.int h.high),some (.int h.aK),some (.ref cr),some (.int pk),none,none]) (te:=wQ Yg _ _) (mU (bN (ao (Cq (k:=1) (Ra (k:=0) (d:=jF r0) (xs:=h.runs.map jF) (tO Zy) (by rw [er]; rfl)) (jG dY)) (ao (jw (k:=1) (Ra (k:=0) (d:=jF r0) (xs:=h.runs.map jF) (tO Zy) (by rw [er]; rfl)) (jG dY)) aW)) (by exact Nat.le_of_ble_eq_true rfl)) (jw (k:=1) (tO Zy) (jG dY)) (by rw [er]; simp only [List.length_map,List.length_drop,List.length_cons,List.length_nil] at lr2 ⊢; omega)) (Same.refl _) fun v H7 s7 hv=>?_
       refine hU _ _ ⟨_,v,rfl,qC.cut er gd l0 lr,?_,cg Ge s7,k4.trans (Kp.of s7),Wv.trans (aP.of s7)⟩
       rw [er] at hv
       have e:((r0.take 1 :: r0.drop 1 :: rest).map jF)=[.tup ((r0.map gK).take 1),.tup ((r0.map gK).drop 1)]++((r0 :: rest).map jF).drop 1:=by
         show [jF (r0.take 1),jF (r0.drop 1)]++rest.map jF=_
         unfold jF
         rw [List.map_take,List.map_drop]
         rfl
       rw [e]
       exact hv
   obtain ⟨rs,v9,rfl,pt,Zy,Ge,k4,Wv⟩:=hz
   have hN4:=hN.kp k4
   refine Cu (fun z=>[some (.ref p),some (.ref a),some (.ref ch),some (.ref cl),some (.int (k:Int)),some w1,some (.int h.low),some (.int h.high),some (.int h.aK),some v9,some (.int pk),none,z]) (fun z=>rfl) (ao (bN (ao (Cm hN4) (ao (oJ (Pg (.int _)) dY) (ao (Cp (.int _)) (ao (Ph (.int _)) (ao (tO Zy) aW))))) (by exact Nat.le_of_ble_eq_true rfl)) (ao (bN (ao (Cm hN4) (ao (Pg (.int _)) (ao (FW (Cp (.int _)) dY) (ao (Ph (.int _)) (ao (tO Zy) aW))))) (by exact Nat.le_of_ble_eq_true rfl)) (ao (bN (ao (Cm hN4) (ao (Pg (.int _)) (ao (Cp (.int _)) (ao (FW (Ph (.int _)) dY) (ao (tO Zy) aW))))) (by exact Nat.le_of_ble_eq_true rfl)) aW))) (by exact Nat.le_of_ble_eq_true rfl) fun lm vm H5 flm s5 elm hvm=>?_
   have k5:=k4.trans (Kp.of s5)
   have SB5:aP p H H5:=Wv.trans (aP.of s5)
   have YH:=cg Ge s5
   have nlm:lm≠p:=fun z=>by obtain ⟨n,e,_⟩:=Ge; rw [<- z,flm] at e; cases e
   refine ab4 (Wu (Rb (Zv (Zv ?_))))
   refine TD.use (Cq (k:=k) (qU (hH.kp k5)) (jG (Ck (.int _)))) (Same.refl _) fun v1 H6 s6 d1=>?_
   have hp6:=cg YH s6
   refine Wu (Rb (Zv ?_))
   refine ⟨p,3,rfl,hp6,by decide,by decide,fun dd H7 dd0 dd1 hp7 Wi=>?_⟩
   obtain ⟨i3,rfl⟩:=Int.eq_ofNat_of_zero_le dd0
   have k56:=uG hp6 hp7 Wi
   have k7:=(k5.trans (Kp.of s6)).trans k56
   have agE:H7 lm=some (.lst vm):=Wi lm _ nlm (s6 _ _ elm)
   have agF:=(hvm.same s6).kp k56
   obtain ⟨vi,hvi⟩:∃ v,vm[i3]?=some v:=⟨_,List.getElem?_eq_getElem (by rw [hvm.len]; show i3<3; omega)⟩
   obtain ⟨di,hdi,dai⟩:=agF.get hvi
   obtain ⟨lo,hi,dr,edi,blo,bhi,bdr⟩:∃ lo hi dr:Int,di=jK ⟨h.name,lo,hi,dr,rs⟩/\lo<=h.low/\h.high<=hi/\h.aK<=dr:=by
     have h3:i3<3:=by omega
     match i3,h3,hdi with
     | 0,_,e=>exact ⟨h.low-1,h.high,h.aK,(Option.some.inj e).symm,by omega,by omega,by omega⟩
     | 1,_,e=>exact ⟨h.low,h.high+7,h.aK,(Option.some.inj e).symm,by omega,by omega,by omega⟩
     | 2,_,e=>exact ⟨h.low,h.high,h.aK+1,(Option.some.inj e).symm,by omega,by omega,by omega⟩
   subst edi
   refine qM agE (gQ hvi) ?_
   refine ⟨by show 1<=sizeLine; omega,fun p8 hp8=>?_⟩
   have s8:Same H7 (upd H7 p8 (.tup [vi])):=(Same.refl H7).upd hp8
   have e8:upd H7 p8 (.tup [vi]) p8=some (.tup [vi]):=aq
   generalize upd H7 p8 (.tup [vi])=H8 at s8 e8 ⊢
   have kk8:=k56.trans (Kp.of s8)
   obtain ⟨a1,x1,rfl,ea1,la1,ra1⟩:=(d1.kp kk8).iw
   have lx1:=ra1.len
   rw [List.length_take,List.length_map] at lx1
   refine ⟨a1,p8,x1,[vi],rfl,rfl,ea1,e8,by simp only [List.length_singleton]; omega,fun p9 H9 e9 s9=>?_⟩
   have ab5:=cg hp7 s8
   have hp9:=cg ab5 s9
   have k9:Kp H H9:=(k7.trans (Kp.of s8)).trans (Kp.of s9)
   refine TD.use (jw (k:=k+1) (qU (hH.kp k9)) (jG (Im (Ck (.int _))))) (Same.refl _) fun v2 DW Bl d2=>?_
   obtain ⟨a2,x2,rfl,Wb,la2,ra2⟩:=d2.iw
   have lx2:=ra2.len
   rw [List.length_drop,List.length_map] at lx2
   refine ⟨p9,a2,x1++[vi],x2,rfl,rfl,Bl _ _ e9,Wb,by simp only [List.length_append,List.length_singleton]; omega,fun p11 Ae e11 s11=>?_⟩
   refine ⟨by show 2<=sizeLine; omega,fun pf hpf=>?_⟩
   have sf:Same Ae (upd Ae pf (.tup [.ref p11,.ref cl])):=(Same.refl Ae).upd hpf
   have ef:upd Ae pf (.tup [.ref p11,.ref cl]) pf=some (.tup [.ref p11,.ref cl]):=aq
   generalize upd Ae pf (.tup [.ref p11,.ref cl])=GF at sf ef ⊢
   have S8:Same H8 GF:=((s9.trans Bl).trans s11).trans sf
   have gp:=PK gh hk (h':=⟨h.name,lo,hi,dr,rs⟩) rfl (by show rs.flatten.map Prod.fst=_; rw [pt.flat]; rfl) ⟨gd.name,by show lo<=hi; have:=gd.wide; omega,by show 0<=dr; have:=gd.aK; omega,pt.few,pt.good⟩
   refine q (.ref pf) (lC hs k ⟨h.name,lo,hi,dr,rs⟩) ls GF (wF ?_) gp.1 (Cz gl hk rfl (by show rs.flatten.map Prod.fst=_; rw [pt.flat]; rfl)) gp.2 (fun m=>Rc (Mg pt blo bhi bdr) hk) (cg ab5 S8) ((((SB5.trans (aP.of s6)).trans Wi).trans (aP.of s8)).trans (aP.of S8))
   refine .tup ef (show 2<=25 by decide) (.cons ?_ (.cons ((hL.kp k9).same ((Bl.trans s11).trans sf)) .nil))
   have e:lK (lC hs k ⟨h.name,lo,hi,dr,rs⟩)=.tup ((hs.map jK).take k++[jK ⟨h.name,lo,hi,dr,rs⟩]++(hs.map jK).drop (k+1)):=by
     unfold lK lC
     rw [List.map_append,List.map_append,List.map_take,List.map_drop]
     rfl
   rw [e]
   refine .tup (sf _ _ e11) (by simp only [List.length_append,List.length_singleton]; omega) (bH.app (bH.app (ra1.same S8) (.cons (dai.same (s8.trans S8)) .nil)) (ra2.same (s11.trans sf)))
end
end mW
namespace mW
open PySem L2 gY
theorem Zz {X:Cx} {o:Expr} {to:TE} {name:Str} {apos cpos:Pos} {T id:String} {r:V->List V->Hp->VK->Prop} (pa:PlainAttrs T) (slot:Slot T name id) (hty:typeOf (.builtin id)=pure (.type "method_descriptor")) (hm:RM X id r) (ho:SE X o to)
   (hbase:attributeBase o name X.env (eval o X.env)=eval o X.env:=by rfl) (hline:(apos.endLine == cpos.line)=true:=by rfl):SE X (.Call (.Attribute o name apos) [] [] cpos) (Xp X.K T r to):=⟨Xq pa slot hty hm.h ho.h hbase hline⟩
theorem wG {H:Hp}:∀ {rs:List Row} {vs:List V},bH H vs (rs.map gK)->∃ ps:List (Addr × Key × V),vs=(ps.map fun p=>V.ref p.1)/\∀ p∈ps,H p.1=some (.tup [kV p.2.1,p.2.2])
 | [],_,h=>by cases h; exact ⟨[],rfl,fun p hp=>by simp at hp⟩
 | r :: rs,vs,h=>by
   obtain ⟨v,w,rfl,d,p⟩:=h.inv
   obtain ⟨ps,rfl,hp⟩:=wG p
   obtain ⟨a,ws,rfl,e,_,pw⟩:=d.iw
   obtain ⟨v1,v2,rfl,d1,d2⟩:=pw.two
   cases d1
   cases d2
   exact ⟨(a,.inr r.1,.int r.2) :: ps,rfl,fun q hq=>(List.mem_cons.mp hq).elim (fun z=>by rw [z]; exact e) (hp q)⟩
def upS (z:Str):Str:=Txt.upper z
theorem Rf {z:Str} (g:Good z):Ca (.str (upS z))=false/\(upS z).length<=8:=by
 have asc:∀ c∈z.cps.toList,c<128:=fun c hc=>by
   have:=g.all c hc
   simp [low] at this
   omega
 unfold upS
 rw [PyProof.Rows.upper_ascii asc]
 have l8:=g.hi
 have l1:=g.lo
 have ll:z.cps.toList.length=z.length:=by simp [Str.length]
 refine ⟨?_,by show (z.cps.map PyProof.Rows.up1).size<=8; rw [Array.size_map]; exact l8⟩
 obtain ⟨c,r,er⟩:∃ c r,z.cps.toList=c :: r:=List.exists_cons_of_ne_nil (fun e=>by
   rw [e] at ll
   simp at ll
   omega)
 have hc:low c=true:=g.all c (by rw [er]; exact List.mem_cons_self)
 show BZ (.str _)=false
 have e:(z.cps.map PyProof.Rows.up1).toList.all low=false:=by
   rw [List.all_eq_false]
   refine ⟨PyProof.Rows.up1 c,by rw [Array.toList_map,er]; exact List.mem_cons_self,?_⟩
   simp [low] at hc
   simp [low,PyProof.Rows.up1,hc]
   omega
 show (_ && _ && (z.cps.map PyProof.Rows.up1).toList.all low)=false
 rw [e,Bool.and_false]
section
variable {σ:St} {H:Hp} {te:TE} {xs:List Da} {rs:List Row} {K:PySem.W.Frag}
theorem Rg (h:TD te σ H (.tup (rs.map gK))):TD (RZ (fun xs H Q=>∃ (l:Addr) (ps:List (Addr × Key × V)),xs=[V.ref l]/\H l=some (.tup (ps.map fun p=>.ref p.1))/\(∀ p∈ps,H p.1=some (.tup [kV p.2.1,p.2.2]))/\∀ d,H d=none->Q (.ref d) (upd H d (.dK (gA [] (ps.map (·.2)))))) (cj te iI)) σ H .oth:=⟨fun H1 s Q q =>
 h.r H1 s _ fun v H2 s2 hv=>by
   obtain ⟨a,vs,rfl,ea,la,ra⟩:=hv.iw
   obtain ⟨ps,rfl,hp⟩:=wG ra
   exact ⟨a,ps,rfl,ea,hp,fun d hd=>q _ _ (s2.upd hd) (.Ow aq)⟩⟩
theorem Vf {i:Int} (hl:i.natAbs.log2<1920) (h:TD te σ H (.int i)):TD (RZ (fun xs H Q=>∃ i,xs=[V.int i]/\i.natAbs.log2<1920/\Q (.str (toString i)) H) (cj te iI)) σ H (.str (toString i)):=⟨fun H1 s Q q =>
 h.r H1 s _ fun v H2 s2 hv=>by
   cases hv
   exact ⟨i,rfl,hl,q _ H2 s2 (.str _ (PySem.int_text_fits hl))⟩⟩
theorem Rh {z:Str} (g:Good z) (h:TD te σ H (.str z)):TD (Xp K "str" (fun x xs H Q=>∃ z,x=.str z/\xs=[]/\z.length<=5592405/\Q (.str (Txt.upper z)) H) te) σ H (.str (upS z)):=⟨fun H1 s Q q =>
 h.r H1 s _ fun v H2 s2 hv=>by
   cases hv
   have:=g.hi
   have:=(Rf g).2
   have mJ:sizeLine=16777216:=sizeLine_eq
   exact ⟨rfl,z,rfl,rfl,by omega,q _ H2 s2 (.str _ (by show (upS z).length<=sizeLine; omega))⟩⟩
theorem Vg (h:TD te σ H (.tup xs)):TD (Z6 SlA te oZ (yQ (tUn (fun x H Q=>match x with | .int i=>Q (.int (-i)) H | _=>False) (tC (.int 1))))) σ H (.tup (xs.take (xs.length-1))):=by
 have z:=Pr h vG (jG (Yt rfl (dY (i:=1))))
 have e:HT.fX xs.length xs.length (some (-1))=xs.length-1:=by
   show (if (-1:Int)<0 then ((-1:Int)+(xs.length:Int)).toNat else min (-1:Int).toNat xs.length)=_
   rw [if_pos (by decide)]
   omega
 rw [HT.jz,e,List.drop_zero,Nat.sub_zero] at z
 exact z
end
section
variable {ss:List Str} {ds:List Da}
theorem iW {x:Da} (hx:x∈ds) (hn:eN x=false):tZ ss (.tup ds)=false:=by
 have:ds.all eN=false:=by
   rw [List.all_eq_false]
   exact ⟨x,hx,by rw [hn]; decide⟩
 show (ds.all eN && _)=false
 rw [this]; rfl
theorem Ag (h:ds.map Y5≠ss):tZ ss (.tup ds)=false:=by
 show (_ && decide (ds.map Y5=ss))=false
 rw [decide_eq_false h,Bool.and_false]
theorem rD (h:ds.length≠ss.length):tZ ss (.tup ds)=false:=Ag fun z=>h (by rw [<- z,List.length_map])
theorem ZC (nd:ss.Nodup) (l:1<ss.length):ss.reverse≠ss:=fun e=>by
 have h0:ss.reverse[0]'(by rw [List.length_reverse]; omega)=ss[0]'(by omega):=by congr 1
 rw [List.getElem_reverse] at h0
 have:=(List.getElem_inj (h₀:=by omega) (h₁:=by omega) nd).mp h0
 omega
theorem ZD (nd:ss.Nodup) (l:1<ss.length):ss.drop 1++ss.take 1≠ss:=fun e=>by
 match ss,l,nd,e with
 | a :: b :: t,_,nd,e =>
   have:b=a:=(List.cons.inj e).1
   subst this
   simp at nd
end
def GK (ss:List Str) (ds:List Da):Prop:=∀ d∈ds,tZ ss d=false
def Ri:Sp:=fun vs H Q _=>∃ (t:V) (ss:List Str) (m:Str->Int),vs=[t]/\gH H t (d8 ss m)/\(∀ s∈ss,Good s)/\ss.Nodup/\ss.length<=24/\(∀ s∈ss,-10000<=m s/\m s<=10000) /\
 ∀ (l:Addr) (ws:List V) (ds:List Da) (H':Hp),H' l=some (.lst ws)->bH H' ws ds->ds.length<=40->GK ss ds->Same H H'->Q (.ref l) H'
def PO (c:Addr) (ss:List Str) (H:Hp):Nat->St->Hp->Prop:=fun i σ H'=>∃ (F:Addr) (ws:List V) (ds:List Da) (o2 o3 o4:Option V),σ=[some (.ref c),some (.ref F),o2,o3,o4]/\H' F=some (.lst ws)/\bH H' ws ds/\ds.length<=14+13 * i/\GK ss ds/\H F=none/\Same H H'
section
variable {P:Program} {w:World} {K:PySem.W.Frag} {mg:Str->Option Value} {base:Heap} {t8:Tok}
theorem m8:bG ["_law_placing","_law_found","_law_row","_law_moment","_law_odd_here"] ["_law_placing"] (aA KR):=⟨rfl,rfl,rfl,by decide +kernel,rfl,by decide +kernel,by decide +kernel⟩
theorem ZF {f:Addr} {fd:FuncData} (F:nG K "_law_odd" "_law_odd" KR f fd) (T:Txt mg t8):aX P w K mg base dM 1 f fd ["_law_placing"] Ri:=by
 refine F.ok m8 (fun vs H Q E h=>?_) (fun cdv A outer s H vs Q E hr h=>?_)
 . obtain ⟨t,ss,m,rfl,_⟩:=h
   rfl
 . obtain ⟨t,ss,m,rfl,hT,gs,nd,Wj,bm,q⟩:=h
   have mJ:sizeLine=16777216:=sizeLine_eq
   have hP0:=gH.told hT gs Wj
   obtain ⟨c,vs,rfl,hc,lc,pv⟩:=hP0.iw
   obtain ⟨P,eP⟩:∃ P,P=(d8 ss m).map gK:=⟨_,rfl⟩
   have hP:bA H (.ref c) (.tup ((d8 ss m).map gK)):=hP0
   have lP:((d8 ss m).map gK).length=ss.length:=by unfold d8; rw [List.length_map,List.length_map]
   have nP:((d8 ss m).map gK).map Y5=ss:=by
     rw [zT]
     unfold d8
     rw [List.map_map,show (Prod.fst∘fun n=>(n,m n))=(id:Str->Str) from rfl,List.map_id]
   refine ⟨_,(Tg.h (eZ (mO (i:=1) m8.nd rfl (Or.inl rfl) (mL (aC (rP ⟨yM⟩ rfl T.list PyProof.Rows.boot_list (aC (qV 0) bh)) (aC Fe (aC cu (aC Og (aC rO (aC rO (aC Oh (aC (rP ⟨(BX rfl)⟩ rfl T.dict (show bootBuiltins "dict" = some (.type "dict") by decide +kernel) (aC (qV 0) bh)) (aC (iM ⟨ou⟩ (qV 0) (cZ (aC (cZ (aC rO (aC cu bh))) bh))) (aC (cZ (aC (qV 0) bh)) bh)))))))))))) (eZ (mO (i:=1) m8.nd rfl (Or.inl rfl) (iM ⟨yN⟩ (qV 1) (mL (aC (cZ (aC (cZ (aC cu (aC rO bh))) bh)) (aC (cZ (aC (cZ (aC rO bh)) bh)) (aC (cZ (aC (cZ (aC rO (aC cu (aC cu bh)))) bh)) (aC (cZ (aC Fe bh)) bh))))))) (eZ (Fj PassesOwn.never rfl (Yi (dN ⟨mK⟩ (qV 0) eY (BP cu))) (Fg rfl (iR (iQ (i:=2) m8.nd rfl (Or.inl rfl)) (iR (iQ (i:=3) m8.nd rfl (Or.inl rfl)) yZ))) (eZ (Fj PassesOwn.never rfl (Ig (mL (aC Fe (aC Og (aC Og (aC (rP ⟨yG⟩ rfl T.str PyProof.Rows.boot_str (aC (qV 3) bh)) (aC (cZ (aC (qV 3) bh)) (aC (mL (aC (qV 3) bh)) bh)))))))) (iQ (i:=4) m8.nd rfl (Or.inl rfl)) (kE (Ii (V4 PySem.F.plainAttrs_list PySem.F.slot_list_append PySem.F.type_list_append ⟨dD⟩ (qV 1) (aC (iM ⟨ou⟩ (cZ (aC (cZ (aC (qV 2) (aC (qV 4) bh))) bh)) (dN ⟨mK⟩ (qV 0) (BP cu) eY)) bh))))) (eZ (mO (i:=1) m8.nd rfl (Or.inl rfl) (iM ⟨yN⟩ (qV 1) (mL (aC (dN ⟨mK⟩ (qV 0) (BP cu) eY) (aC (iM ⟨ou⟩ (dN ⟨mK⟩ (qV 0) eY (BP cu)) (qV 0)) (aC (iM ⟨ou⟩ (cZ (aC (mL (aC (qV 2) (aC (qV 3) bh))) bh)) (dN ⟨mK⟩ (qV 0) (BP cu) eY)) (aC (iM ⟨ou⟩ (cZ (aC (qV 2) bh)) (dN ⟨mK⟩ (qV 0) (BP cu) eY)) bh))))))) (kE (Fj PassesOwn.never rfl (Ig (mL (aC (cZ (aC (Zz PySem.F.plainAttrs_str PySem.F.slot_str_upper PySem.F.type_str_upper ⟨Nr⟩ (qV 2)) (aC (qV 3) bh))) (aC (cZ (aC (qV 2) (aC (qV 3) (aC cu bh)))) (aC (cZ (aC (qV 2) bh)) bh))))) (iQ (i:=4) m8.nd rfl (Or.inl rfl)) (kE (Ii (V4 PySem.F.plainAttrs_list PySem.F.slot_list_append PySem.F.type_list_append ⟨dD⟩ (qV 1) (aC (iM ⟨ou⟩ (cZ (aC (qV 4) bh)) (dN ⟨mK⟩ (qV 0) (BP cu) eY)) bh))))))))) (eZ (Oj (qtC ⟨Sv⟩ (qN ⟨bT⟩ rfl T.len PySem.boot_len (aC (qV 0) bh)) cu (bJ _)) (kE (mO (i:=1) m8.nd rfl (Or.inl rfl) (iM ⟨yN⟩ (qV 1) (mL (aC (Yh (qV 0)) (aC (iM ⟨ou⟩ (dN ⟨mK⟩ (qV 0) (BP cu) eY) (dN ⟨mK⟩ (qV 0) eY (BP cu))) (aC (dN ⟨mK⟩ (qV 0) eY (BP (abm ⟨J5⟩ cu))) bh))))))) za) (kE (Fi (qV 1)))))))),?_⟩
   refine Cu (fun z=>[some (.ref c),z,none,none,none]) (fun z=>rfl) (ao (Pu (jU hP)) (ao vD (ao dY (ao Pb (ao (jh (by decide +kernel)) (ao (jh (by decide +kernel)) (ao Yu (ao (Rg (jU hP)) (ao (mU (jU hP) (bN (ao (bN (ao (jh (by decide +kernel)) (ao dY aW)) (by exact Nat.le_of_ble_eq_true rfl)) aW) (by exact Nat.le_of_ble_eq_true rfl)) (by simp only [List.length_append,List.length_cons,List.length_nil,List.length_drop,List.length_take,lP]; omega)) (ao (bN (ao (jU hP) aW) (by exact Nat.le_of_ble_eq_true rfl)) aW)))))))))) (by exact Nat.le_of_ble_eq_true rfl) fun f1 w1 H1 ff1 s1 ef1 d1=>?_
   refine Cv (fun z=>[some (.ref c),z,none,none,none]) (fun z=>rfl) (a:=f1) rfl ef1 d1 (ao (bN (ao (bN (ao dY (ao (jh (by decide +kernel)) aW)) (by exact Nat.le_of_ble_eq_true rfl)) aW) (by exact Nat.le_of_ble_eq_true rfl)) (ao (bN (ao (bN (ao (jh (by decide +kernel)) aW) (by exact Nat.le_of_ble_eq_true rfl)) aW) (by exact Nat.le_of_ble_eq_true rfl)) (ao (bN (ao (bN (ao (jh (by decide +kernel)) (ao dY (ao dY aW))) (by exact Nat.le_of_ble_eq_true rfl)) aW) (by exact Nat.le_of_ble_eq_true rfl)) (ao (bN (ao vD aW) (by exact Nat.le_of_ble_eq_true rfl)) aW)))) (by exact Nat.le_of_ble_eq_true rfl) fun f2 w2 H2 ff2 s2 ef2 d2=>?_
   have S2:=s1.trans s2
   refine Q8 (PO c ss H 1) (fun U hU=>?_) (fun σ3 H3 hN=>?_)
   . refine ⟨⟨c,vs,rfl,S2 _ _ hc,fun p H3 ep s3=>?_⟩⟩
     have S3:=S2.trans s3
     have ec:nQ vs none (some 1)=vs.take 1:=by
       unfold nQ
       rw [HT.jz,show (some 1:Option Int)=some ((1:Nat):Int) from rfl,HT.iJ,List.drop_zero,Nat.sub_zero,List.take_eq_take_iff]
       omega
     rw [ec] at ep
     have lt1:(vs.take 1).length<=1:=by rw [List.length_take]; omega
     refine ⟨p,rfl,⟨_,bM.of ep⟩,gP (xs:=vs.take 1) (fun i σ H'=>PO c ss H i σ H'/\H' p=some (.tup (vs.take 1))) ⟨⟨f2,w2,_,none,none,none,rfl,s3 _ _ ef2,d2.same s3,(by exact Nat.le_of_ble_eq_true rfl),?_,(Py s1 ff2),S3⟩,ep⟩ (fun i σ H' _ hz=>bM.of hz.2) (fun i v σ H4 hv hz=>?_) (fun σ H4 hz=>?_)⟩
     . intro d hd
       simp only [List.mem_append,List.mem_cons,List.not_mem_nil,or_false] at hd
       rcases hd with (rfl | rfl | rfl | rfl | rfl | rfl | rfl | rfl | rfl | rfl) | (rfl | rfl | rfl | rfl)
       . rfl
       . rfl
       . rfl
       . rfl
       . rfl
       . rfl
       . rfl
       . rfl
       . exact rD (by rw [List.length_append,lP,List.length_singleton]; omega)
       . refine iW List.mem_cons_self ?_
         rcases (d8 ss m) with _ | ⟨r,_ | ⟨r2,_ | ⟨r3,l⟩⟩⟩ <;> rfl
       . exact iW List.mem_cons_self rfl
       . exact iW List.mem_cons_self rfl
       . exact iW List.mem_cons_self rfl
       . exact iW List.mem_cons_self rfl
     . obtain ⟨⟨F,ws,ds,o2,o3,o4,rfl,eF,dF,lF,aF,fF,S4⟩,ep4⟩:=hz
       have i0:i=0:=by
         have:=(List.getElem?_eq_some_iff.mp hv).1
         omega
       subst i0
       have hv0:vs[0]?=some v:=by rw [List.getElem?_take] at hv; simpa using hv
       obtain ⟨dd,hdd,da⟩:=pv.get hv0
       rw [List.getElem?_map] at hdd
       obtain ⟨r,hr',rfl⟩:=Option.map_eq_some_iff.mp hdd
       obtain ⟨n,hn,rfl⟩:∃ n,n∈ss/\r=(n,m n):=by
         obtain ⟨n,hn,e⟩:=List.mem_map.mp (List.mem_of_getElem? hr')
         exact ⟨n,hn,e.symm⟩
       have ls1:1<=ss.length:=List.length_pos_of_mem hn
       have gn:=gs n hn
       have agH:(m n).natAbs.log2<1920:=by
         have:=bm n hn
         by_cases h0:(m n).natAbs=0
         . rw [h0]; decide
         . have:=(Nat.log2_lt (n:=(m n).natAbs) (k:=30) h0).mpr (by omega)
           omega
       obtain ⟨a1,u1,rfl,ea1,_,pu⟩:=da.iw
       obtain ⟨x1,x2,rfl,y1,y2⟩:=pu.two
       cases y1
       cases y2
       refine ⟨a1,_,rfl,bM.of (S4 _ _ ea1),rfl,_,_,rfl,_,_,rfl,rfl,?_⟩
       have ZG:=hP.same S4
       have hN:∀ {H:Hp},bA H (.str n) (.str n):=gn.da
       have nFc:F≠c:=fun z=>by rw [z,hc] at fF; cases fF
       refine KJ (σ:=[some (.ref c),some (.ref F),some (.str n),some (.int (m n)),o4]) (iF:=1) (iO:=4) (a:=F) (f:=fun d=>.tup ([.tup [.str n,d]]++((d8 ss m).map gK).drop 1)) (fun z=>[some (.ref c),some (.ref F),some (.str n),some (.int (m n)),z]) (fun z=>rfl) rfl (by decide) ⟨o4,rfl⟩ eF dF (ao vD (ao Pb (ao Pb (ao (Vf agH (qW (.int _))) (ao (bN (ao (qW (.int _)) aW) (by exact Nat.le_of_ble_eq_true rfl)) (ao (Pq (ao (qW (.int _)) aW) (by exact Nat.le_of_ble_eq_true rfl)) aW)))))) (by simp only [List.length_cons,List.length_nil]; omega) (fun x d H' hd kx hx=>(mU (bN (ao (bN (ao (qU hN) (ao (Ck hx) aW)) (by exact Nat.le_of_ble_eq_true rfl)) aW) (by exact Nat.le_of_ble_eq_true rfl)) (jw (k:=1) (jU ((ZG).kp kx)) (jG dY)) (by simp only [List.length_append,List.length_cons,List.length_nil,List.length_drop,List.length_take,lP]; omega))) fun o5 H5 w5 k1 sb5 eF5 dF5=>?_
       refine Cv (i:=1) (k:=1) (fun z=>[some (.ref c),z,some (.str n),some (.int (m n)),o5]) (fun z=>rfl) (a:=F) rfl eF5 dF5 (ao (jw (k:=1) (jU (ZG.kp k1)) (jG dY)) (ao (mU (Cq (k:=1) (jU (ZG.kp k1)) (jG dY)) (jU (ZG.kp k1)) (by simp only [List.length_append,List.length_cons,List.length_nil,List.length_drop,List.length_take,lP]; omega)) (ao (mU (bN (ao (Pq (ao (qU hN) (ao (qW (.int _)) aW)) (by exact Nat.le_of_ble_eq_true rfl)) aW) (by exact Nat.le_of_ble_eq_true rfl)) (jw (k:=1) (jU (ZG.kp k1)) (jG dY)) (by simp only [List.length_append,List.length_cons,List.length_nil,List.length_drop,List.length_take,lP]; omega)) (ao (mU (bN (ao (qU hN) aW) (by exact Nat.le_of_ble_eq_true rfl)) (jw (k:=1) (jU (ZG.kp k1)) (jG dY)) (by simp only [List.length_append,List.length_cons,List.length_nil,List.length_drop,List.length_take,lP]; omega)) aW)))) (by simp only [List.length_append,List.length_map,List.length_cons,List.length_nil]; omega) fun f6 w6 H6 ff6 s6 ef6 d6=>?_
       have k2:Kp H4 H6:=k1.trans (Kp.of s6)
       refine Cr (σ:=[some (.ref c),some (.ref f6),some (.str n),some (.int (m n)),o5]) (iF:=1) (iO:=4) (a:=f6) (f:=fun d=>.tup ([d]++((d8 ss m).map gK).drop 1)) rfl (by decide) ⟨o5,rfl⟩ ef6 d6 (ao (bN (ao (Rh gn (qU hN)) (ao (qW (.int _)) aW)) (by exact Nat.le_of_ble_eq_true rfl)) (ao (bN (ao (qU hN) (ao (qW (.int _)) (ao dY aW))) (by exact Nat.le_of_ble_eq_true rfl)) (ao (bN (ao (qU hN) aW) (by exact Nat.le_of_ble_eq_true rfl)) aW))) (by simp only [List.length_append,List.length_map,List.length_cons,List.length_nil]; omega) (fun x d H' hd kx hx=>(mU (bN (ao (Ck hx) aW) (by exact Nat.le_of_ble_eq_true rfl)) (jw (k:=1) (jU ((ZG.kp k2).kp kx)) (jG dY)) (by simp only [List.length_append,List.length_cons,List.length_nil,List.length_drop,List.length_take,lP]; omega))) fun o7 H7 w7 k7 Wi ef7 d7=>?_
       have fH4:H4 f6=none∨f6=F:=by
         by_cases z:f6=F
         . exact .inr z
         . left
           cases y:H4 f6 with
           | none=>rfl
           | some u=>rw [sb5 f6 u z y] at ff6; cases ff6
       have nf6:f6≠F:=fun z=>by rw [z,eF5] at ff6; cases ff6
       have S7:Same H H7:=fun b o e=>by
         have b1:b≠F:=fun z=>by rw [z,fF] at e; cases e
         have e5:=sb5 b o b1 (S4 _ _ e)
         have e6:=s6 _ _ e5
         exact Wi b o (fun z=>by rw [z,ff6] at e5; cases e5) e6
       have fH:H f6=none:=by
         cases y:H f6 with
         | none=>rfl
         | some u =>
           rcases fH4 with z | z
           . rw [S4 _ _ y] at z; cases z
           . exact absurd z nf6
       have np6:p≠f6:=fun z=>by
         rcases fH4 with y | y
         . rw [<- z,ep4] at y; cases y
         . exact nf6 y
       have npF:p≠F:=fun z=>by rw [z,eF] at ep4; cases ep4
       refine ⟨⟨f6,w7,_,_,_,_,rfl,ef7,d7,by simp only [List.length_append,List.length_map,List.length_cons,List.length_nil]; omega,?_,fH,S7⟩,Wi p _ np6 (s6 _ _ (sb5 p _ npF ep4))⟩
       intro d hd
       rcases List.mem_append.mp hd with hd | hd
       . rcases List.mem_append.mp hd with hd | hd
         . rcases List.mem_append.mp hd with hd | hd
           . exact aF d hd
           . obtain ⟨y,hy,rfl⟩:=List.mem_map.mp hd
             refine iW (List.mem_append_left _ List.mem_cons_self) ?_
             simp only [List.mem_cons,List.not_mem_nil,or_false] at hy
             rcases hy with rfl | rfl | rfl | rfl | rfl | rfl <;> simp [eN,Ox]
         . simp only [List.mem_cons,List.not_mem_nil,or_false] at hd
           rcases hd with rfl | rfl | rfl | rfl
           . exact rD (by rw [List.length_drop,lP]; omega)
           . exact rD (by rw [List.length_append,List.length_take,lP]; omega)
           . exact iW (List.mem_append_left _ List.mem_cons_self) rfl
           . exact iW (List.mem_append_left _ List.mem_cons_self) rfl
       . obtain ⟨y,hy,rfl⟩:=List.mem_map.mp hd
         refine iW (List.mem_append_left _ List.mem_cons_self) ?_
         simp only [List.mem_cons,List.not_mem_nil,or_false] at hy
         rcases hy with rfl | rfl | rfl
         . show (Ca (.str (upS n)) && _)=false
           rw [(Rf gn).1]; rfl
         . rfl
         . rfl
     . obtain ⟨⟨F,ws,ds,o2,o3,o4,rfl,eF,dF,lF,aF,fF,S4⟩,ep4⟩:=hz
       exact hU _ _ ⟨F,ws,ds,o2,o3,o4,rfl,eF,dF,by omega,aF,fF,S4⟩
   . obtain ⟨F,ws,ds,o2,o3,o4,rfl,eF,dF,lF,aF,fF,S4⟩:=hN
     have hP3:=hP.same S4
     refine mQ (fun σ' H'=>∃ (F:Addr) (ws:List V) (ds:List Da),σ'=[some (.ref c),some (.ref F),o2,o3,o4]/\H' F=some (.lst ws)/\bH H' ws ds/\ds.length<=40/\GK ss ds/\Same H H') (fun U hU=>?_) (fun σ' H5 hz=>?_)
     . refine ⟨c,vs,rfl,.inr (bM.of (S4 _ _ hc)),?_⟩
       refine j7 (fun c1=>?_) (fun c1=>hU _ _ ⟨F,ws,ds,rfl,eF,dF,by omega,aF,S4⟩)
       have l1:1<ss.length:=by
         have z:(1:Int)<(vs.length:Int):=of_decide_eq_true c1
         have y:=pv.len
         rw [lP] at y
         omega
       refine Io (i:=1) (k:=1) (a:=F) rfl eF dF (ao (Yv (jU hP3)) (ao (mU (jw (k:=1) (jU hP3) (jG dY)) (Cq (k:=1) (jU hP3) (jG dY)) (by simp only [List.length_append,List.length_cons,List.length_nil,List.length_drop,List.length_take,lP]; omega)) (ao (Vg (jU hP3)) aW))) (by simp only [List.length_cons,List.length_nil]; omega) fun f6 w6 H6 ff6 s6 ef6 d6=>?_
       refine hU _ _ ⟨f6,w6,_,rfl,ef6,d6,by simp only [List.length_append,List.length_cons,List.length_nil]; omega,?_,S4.trans s6⟩
       intro d hd
       rcases List.mem_append.mp hd with hd | hd
       . exact aF d hd
       simp only [List.mem_cons,List.not_mem_nil,or_false] at hd
       rcases hd with rfl | rfl | rfl
       . exact Ag (by rw [List.map_reverse,nP]; exact ZC nd l1)
       . exact Ag (by rw [List.map_append,List.map_drop,List.map_take,nP]; exact ZD nd l1)
       . exact rD (by rw [List.length_take,lP]; omega)
     . obtain ⟨F,ws,ds,rfl,eF,dF,lF,aF,S5⟩:=hz
       exact q F ws ds H5 eF dF lF aF S5
end
end mW
namespace mW
open PySem L2 gY
section
variable {hs:List aJ} {ls:List Letter} {m:Str->Int} {b:Int} {ss:List Str} {h:aJ}
theorem DK:(d8 ss m).map (nC b)=d8 ss (fun n=>m n+b):=by unfold d8; rw [List.map_map]; rfl
theorem DN:bL (rC b h)=(bL h).map (nC b):=by
 show (h.runs.map fun r=>r.map (nC b)).flatten=h.runs.flatten.map (nC b)
 rw [List.map_flatten]
theorem pN:aR (rC b h)=aR h:=by
 unfold aR
 rw [DN,List.map_map]; rfl
theorem Ah:namesOf (hs.map (rC b))=namesOf hs:=by
 unfold namesOf
 rw [List.flatMap_map]
 congr 1
 funext h
 exact pN
theorem Rj (g:cD h):cD (rC b h):=by
 refine ⟨g.name,g.wide,g.aK,by show (h.runs.map _).length<=25; rw [List.length_map]; exact g.few,fun r hr=>?_⟩
 obtain ⟨r0,h0,rfl⟩:=List.mem_map.mp hr
 have g0:=g.runs r0 h0
 refine ⟨fun z=>g0.ne (List.map_eq_nil_iff.mp z),by rw [List.length_map]; exact g0.few,fun q hq=>?_,?_⟩
 . obtain ⟨q0,hq0,rfl⟩:=List.mem_map.mp hq
   exact g0.names q0 hq0
 . have z:=g0.rise
   rw [List.pairwise_map] at z
   rw [List.map_map,List.pairwise_map]
   exact z.imp fun {a c} h=>by show a.2+b<c.2+b; omega
theorem Rk (g:bw hs):bw (hs.map (rC b)):=by
 refine ⟨by rw [List.length_map]; exact g.lo,by rw [List.length_map]; exact g.hi,fun k hk=>?_,?_,by rw [Ah]; exact g.rows,by rw [Ah]; exact g.few⟩
 . obtain ⟨k0,h0,rfl⟩:=List.mem_map.mp hk
   exact Rj (g.all k0 h0)
 . rw [List.map_map]; exact g.names
theorem ZJ (g:bx hs ls):bx (hs.map (rC b)) ls:=by
 refine ⟨g.few,fun l hl=>?_,g.rise⟩
 obtain ⟨g1,g2,g3,g4,h1,m1,h2,m2,n1,n2,ne⟩:=g.all l hl
 exact ⟨g1,g2,g3,g4,rC b h1,List.mem_map_of_mem m1,rC b h2,List.mem_map_of_mem m2,by rw [pN]; exact n1,by rw [pN]; exact n2,ne⟩
theorem Jq:∀ {l:List Str},je (fun n=>m n+b) l=je m l
 | []=>rfl
 | [_]=>rfl
 | x :: y :: r=>by
   show (gU _ (x,y) && je _ (y :: r))=(gU m (x,y) && je m (y :: r))
   rw [Jq (l:=y :: r)]
   unfold gU
   congr 1
   rw [Bool.eq_iff_iff,decide_eq_true_iff,decide_eq_true_iff]
   show 1<=m y+b-(m x+b)↔1<=m y-m x
   omega
theorem Rm {r:List Row}:offs (r.map (nC b)) (fun n=>m n+b)=offs r m:=by
 unfold offs
 rw [List.map_map]
 refine List.map_congr_left fun q _=>?_
 show q.2+b-(m q.1+b)=q.2-m q.1
 omega
theorem Rn:fM (rC b h) (fun n=>m n+b)=fM h m:=by
 rw [Bool.eq_iff_iff,cA,cA,pN,Jq,DN]
 have e1:∀ r:Row,jd (rC b h) (fun n=>m n+b) (nC b r)=jd h m r:=fun r=>by
   unfold jd
   have e:(nC b r).2-(m (nC b r).1+b)=r.2-m r.1:=by show r.2+b-(m r.1+b)=_; omega
   show (decide (h.low<=(nC b r).2-(m (nC b r).1+b)) && decide ((nC b r).2-(m (nC b r).1+b)<=h.high))=_
   rw [e]
 have e2:∀ r:List Row,cF (r.map (nC b)) h.aK (fun n=>m n+b)=cF r h.aK m:=fun r=>by
   unfold cF; rw [Rm]
 refine ⟨fun ⟨a,c,d⟩=>⟨fun r hr=>e1 r ▸ a _ (List.mem_map_of_mem hr),c,fun r hr=>e2 r ▸ d _ (List.mem_map_of_mem hr)⟩,fun ⟨a,c,d⟩=>⟨fun r hr=>?_,c,fun r hr=>?_⟩⟩
 . obtain ⟨r0,h0,rfl⟩:=List.mem_map.mp hr
   rw [e1]; exact a r0 h0
 . obtain ⟨r0,h0,rfl⟩:=List.mem_map.mp hr
   show cF _ h.aK _=true
   rw [e2]; exact d r0 h0
theorem Mi {l:Letter}:gk l (fun n=>m n+b)=gk l m:=by
 unfold gk
 have e:m l.1.2+b-(m l.1.1+b)=m l.1.2-m l.1.1:=by omega
 simp only [e]
theorem Ro:cR (hs.map (rC b)) ls (fun n=>m n+b)=cR hs ls m:=by
 unfold cR
 rw [List.all_map]
 congr 1
 . congr 1; funext h; exact Rn
 . congr 1; funext l; exact Mi
theorem sU:(namesOf hs.reverse).Perm (namesOf hs):=by
 unfold namesOf
 exact (List.reverse_perm hs).flatMap_right _
theorem Rp (g:bw hs):bw hs.reverse :=
 ⟨by rw [List.length_reverse]; exact g.lo,by rw [List.length_reverse]; exact g.hi,fun h hh=>g.all h (List.mem_reverse.mp hh),by rw [List.map_reverse]; exact (List.reverse_perm _).nodup_iff.mpr g.names,sU.nodup_iff.mpr g.rows,by rw [sU.length_eq]; exact g.few⟩
theorem ZK (g:bx hs ls):bx hs.reverse ls:=by
 refine ⟨g.few,fun l hl=>?_,g.rise⟩
 obtain ⟨g1,g2,g3,g4,h1,m1,h2,m2,r⟩:=g.all l hl
 exact ⟨g1,g2,g3,g4,h1,List.mem_reverse.mpr m1,h2,List.mem_reverse.mpr m2,r⟩
theorem Rq:cR hs.reverse ls m=cR hs ls m:=by
 unfold cR
 rw [List.all_reverse]
def Far (hs:List aJ) (m:Str->Int):Prop:=∀ h∈hs,∀ r∈bL h,r.2-m r.1-1000000<h.low
theorem Rr (g:bw hs) (gl:bx hs ls) (f:Far hs m) (pm:ss.Perm (namesOf hs)):cR hs ls (fun n=>m n+1000000)=ss.isEmpty:=by
 cases e:namesOf hs with
 | nil =>
   rw [e] at pm
   rw [List.perm_nil.mp pm]
   have no:∀ h∈hs,h.runs=[]:=fun h hh=>by
     cases er:h.runs with
     | nil=>rfl
     | cons r rest =>
       exfalso
       have g1:=((g.all h hh).runs r (by rw [er]; exact List.mem_cons_self)).ne
       obtain ⟨q,l,eq⟩:=List.exists_cons_of_ne_nil g1
       have:q.1∈namesOf hs:=List.mem_flatMap.mpr ⟨h,hh,List.mem_map_of_mem (List.mem_flatten.mpr ⟨r,by rw [er]; exact List.mem_cons_self,by rw [eq]; exact List.mem_cons_self⟩)⟩
       rw [e] at this
       simp at this
   refine uJ (fun h hh=>?_) fun l hl=>?_
   . refine cA.mpr ⟨fun r hr=>?_,?_,fun r hr=>?_⟩
     . unfold bL at hr; rw [no h hh] at hr; simp at hr
     . unfold aR bL; rw [no h hh]; rfl
     . rw [no h hh] at hr; simp at hr
   . obtain ⟨_,_,_,_,h1,m1,_,_,n1,_⟩:=gl.all l hl
     have:l.1.1∈namesOf hs:=List.mem_flatMap.mpr ⟨h1,m1,n1⟩
     rw [e] at this
     simp at this
 | cons n l =>
   have hn:n∈namesOf hs:=by rw [e]; exact List.mem_cons_self
   obtain ⟨h,hh,hn'⟩:=List.mem_flatMap.mp hn
   obtain ⟨r,hr,rfl⟩:=List.mem_map.mp hn'
   have z:=f h hh r hr
   have ne:ss.isEmpty=false:=by
     cases ss with
     | nil=>rw [e] at pm; have:=pm.length_eq; simp at this
     | cons _ _=>rfl
   rw [ne]
   refine jW hh (qY fun ⟨a,_⟩=>?_)
   have y:=a r hr
   unfold jd at y
   have y1:h.low<=r.2-(m r.1+1000000):=of_decide_eq_true (Bool.and_eq_true_iff.mp y).1
   omega
end
theorem Ai {b:Bool} {X Y:Prop} (h:Y):if (!decide (V.bl b=V.bl b))=true then X else Y:=by rw [decide_eq_true rfl]; exact h
theorem Vh {α β:Type} {a:List α} {b:List β} (h:a.length=b.length):a.isEmpty=b.isEmpty:=by
 cases a <;> cases b <;> first | rfl | cases h
theorem ab7 {a b c e d:Int} (h0:0<=d) (h4:d<4):∃ w:Int,yH [V.int a,.int b,.int c,.int e] d=some (.int w):=by
 obtain ⟨n,rfl⟩:=Int.eq_ofNat_of_zero_le h0
 match n,h4 with
 | 0,_=>exact ⟨a,rfl⟩
 | 1,_=>exact ⟨b,rfl⟩
 | 2,_=>exact ⟨c,rfl⟩
 | 3,_=>exact ⟨e,rfl⟩
 | n+4,h=>exact absurd h (by omega)
def Aj:Sp:=fun vs H Q _=>∃ (p ia:Addr) (x:V) (hs:List aJ) (ls:List Letter) (m:Str->Int) (ns:List Str),vs=[.ref p,x,.ref ia]/\bD H p/\cU H x hs ls/\bw hs/\bx hs ls/\InstAt H ia m ns/\ns.Perm (namesOf hs)/\Far hs m/\∀ H',bD H' p->aP p H H'->Q (.bl true) H'
section
variable {P:Program} {w:World} {K:PySem.W.Frag} {mg:Str->Option Value} {base:Heap} {t8:Tok}
theorem j5:bG ["_law_pack_here","_law_ledger_here","_law_instants","_law_placing","_law_due","_law_by","_law_moved_here","_law_turn","_law_far"] ["_law_pack_here","_law_ledger_here","_law_instants"] (aA oM):=⟨rfl,rfl,rfl,by decide +kernel,rfl,by decide +kernel,by decide +kernel⟩
theorem Rt {f qD jm dG Ak sV Al:Addr} {fd rE j6 dU DP wH DQ:FuncData} (F:nG K "_law_right" "_law_right" oM f fd) (T:Txt mg t8)
   (GP:aX P w K mg base dM 5 qD rE ["_law_instants"] zW) (GQ:mg "_law_told" = some (.ref qD)) (GR:PySem.W.keepIn K (.ref qD)=true) (GX:Binds K rE ["_law_instants"] [])
   (jo:aX P w K mg base dM 5 jm j6 ["ledger","thing"] pK) (jq:mg "is_placing" = some (.ref jm)) (jr:PySem.W.keepIn K (.ref jm)=true) (jt:Binds K j6 ["ledger","thing"] [])
   (cH:aX P w K mg base dM 5 dG dU ["_law_pack_here","_law_size"] mR) (cI:mg "_law_take" = some (.ref dG)) (cJ:PySem.W.keepIn K (.ref dG)=true) (cL:Binds K dU ["_law_pack_here","_law_size"] [])
   (Vi:aX P w K mg base dM 5 Ak DP ["_law_ledger_here","_law_by"] Af) (Vj:mg "_law_moved" = some (.ref Ak)) (Vk:PySem.W.keepIn K (.ref Ak)=true) (Vl:Binds K DP ["_law_ledger_here","_law_by"] [])
   (Mj:aX P w K mg base dM 5 sV wH ["_law_pack_here","_law_ledger_here"] sS) (Ml:mg "_law_more_let" = some (.ref sV)) (Mp:PySem.W.keepIn K (.ref sV)=true) (Mq:Binds K wH ["_law_pack_here","_law_ledger_here"] [])
   (Vm:aX P w K mg base dM 5 Al DQ ["_law_ledger_here","_law_instants"] zX) (Vn:mg "_law_keeps" = some (.ref Al)) (Vo:PySem.W.keepIn K (.ref Al)=true) (Vp:Binds K DQ ["_law_ledger_here","_law_instants"] []):aX P w K mg base dM 6 f fd ["_law_pack_here","_law_ledger_here","_law_instants"] Aj:=by
 refine F.ok j5 (fun vs H Q E h=>?_) (fun cdv A outer s H vs Q E hr h=>?_)
 . obtain ⟨p,ia,x,hs,ls,m,ns,rfl,_⟩:=h
   rfl
 . obtain ⟨p,ia,x,hs,ls,m,ns,rfl,hp,hx,gh,gl,hi,pmn,far,q⟩:=h
   have mJ:sizeLine=16777216:=sizeLine_eq
   have few:=gh.few
   refine ⟨_,(au (aV (i:=3) j5.nd rfl (Or.inl rfl) (aM GP hr rfl GQ GR GX .nil bf (aj (pV 2) ak))) (au (aV (i:=4) j5.nd rfl (Or.inl rfl) (aM jo hr rfl jq jr jt .nil bf (aj (pV 1) (aj (pV 3) ak)))) (au (aV (i:=5) j5.nd rfl (Or.inr rfl) (cP Eo (fQ (aj aD (aj (wR J5 aD) (aj aD (aj (wR J5 aD) ak))))) (aM cH hr rfl cI cJ cL .nil bf (aj (pV 0) (aj aD ak))) (fun _ _=>rfl))) (au (aV (i:=6) j5.nd rfl (Or.inl rfl) (dB bY rfl T.tuple PyProof.Rows.boot_tuple (aj (dJ (g8:=aA oM) (own:=["_law_row","_law_moment"]) (cap:=["_law_by"]) (ix:=[5]) rfl rfl ⟨rfl,by decide +kernel,by decide +kernel,by decide +kernel,rfl,by decide +kernel⟩ (cX (pV 3)) (fun b=>(cT rfl (aG (aB (i:=0) (show (["_law_row","_law_moment","_law_by"]:List Str).Nodup by decide +kernel) rfl (Or.inl rfl)) (aG (aB (i:=1) (show (["_law_row","_law_moment","_law_by"]:List Str).Nodup by decide +kernel) rfl (Or.inl rfl)) bR)))) (fun b=>bU) (fun b=>(bI (aj (pV 0) (aj (aY gF (pV 1) (pV 2)) ak))))) ak))) (au (eV (sZ Hv (aM jo hr rfl jq jr jt .nil bf (aj (aM Vi hr rfl Vj Vk Vl .nil bf (aj (pV 1) (aj (pV 5) ak))) (aj (pV 6) ak))) (pV 4) (bJ _)) (aH (aZ iH)) bO) (au (eV (sZ Hv (aM jo hr rfl jq jr jt .nil bf (aj (bI (aj (Oa (cP jC (pV 1) aD (fun _ _=>rfl))) (aj (cP jC (pV 1) aD (fun _ _=>rfl)) ak))) (aj (pV 3) ak))) (pV 4) (bJ _)) (aH (aZ iH)) bO) (au (cY PassesOwn.never rfl (fP rfl T.range (aj (aY XJ aD (dB JG rfl T.int PyProof.Rows.boot_int (aj (pV 4) ak))) ak)) (aB (i:=7) j5.nd rfl (Or.inl rfl)) (aH (eV (kW (L2.iY (aM jo hr rfl jq jr jt .nil bf (aj (aM Mj hr rfl Ml Mp Mq .nil bf (aj (pV 0) (aj (pV 1) ak))) (aj (pV 3) ak))))) (aH (aZ iH)) bO))) (au (aV (i:=8) j5.nd rfl (Or.inl rfl) (dB bY rfl T.tuple PyProof.Rows.boot_tuple (aj (dJ (g8:=aA oM) (own:=["_law_row","_law_moment"]) (cap:=[]) (ix:=[]) rfl rfl ⟨rfl,by decide +kernel,by decide +kernel,by decide +kernel,rfl,by decide +kernel⟩ (cX (pV 3)) (fun b=>(cT rfl (aG (aB (i:=0) (show (["_law_row","_law_moment"]:List Str).Nodup by decide +kernel) rfl (Or.inl rfl)) (aG (aB (i:=1) (show (["_law_row","_law_moment"]:List Str).Nodup by decide +kernel) rfl (Or.inl rfl)) bR)))) (fun b=>bU) (fun b=>(bI (aj (pV 0) (aj (aY gF (pV 1) (aY aa6 aD aD)) ak))))) ak))) (au (eV (sZ Hv (aM jo hr rfl jq jr jt .nil bf (aj (pV 1) (aj (pV 8) ak))) (jH (aeU hr.Ei) (pV 3) (bI ak) (bJ _)) (bJ _)) (aH (aZ iH)) bO) (aH (aZ (jH aaM (pV 4) (aM Vm hr rfl Vn Vo Vp .nil bf (aj (pV 1) (aj (pV 2) ak))) (bJ _))))))))))))),?_⟩
   refine ⟨ia,m,ns,rfl,hi,by rw [pmn.length_eq]; exact gh.few,fun pt ss H1 rt0 pm0 so s1=>?_⟩
   have pm:=pm0.trans pmn
   have lss:=pm.length_eq
   obtain ⟨_,vt,ez,ect,prt⟩:=rt0
   cases ez
   have rt:∀ {H':Hp},dX H1 H'->gH H' (.ref pt) (d8 ss m):=fun t=>⟨pt,vt,rfl,t _ _ ect,aO (fun _ _ z=>z.ts t) prt⟩
   have lvt:vt.length=ss.length:=by have z:=prt.length; unfold d8 at z; rw [List.length_map] at z; exact z
   refine ⟨x,.ref pt,hs,ls,rfl,hx.ts s1.tups,gh,gl,.inl ⟨ss,m,rt (dX.refl _),pm,so,fun H2 s2=>?_⟩⟩
   refine ⟨by show 4<=sizeLine; omega,fun l4 fl4=>?_⟩
   have S2:=s1.trans s2
   have hp2:=cg hp S2
   have n4:l4≠p:=fun z=>by obtain ⟨n,e,_⟩:=hp2; rw [<- z,fl4] at e; cases e
   refine ⟨p,4,rfl,hp2.new fl4,by decide,by decide,fun d H3 d0 d1 hp3 sb3=>?_⟩
   obtain ⟨by',eby⟩:=ab7 (a:=1) (b:=-1) (c:=50) (e:=-1000) d0 d1
   refine qM (sb3 l4 _ n4 aq) eby ?_
   have ZL:aP p H1 H3:=((aP.of s2).new fl4).trans sb3
   have YQ:aP p H H3:=(aP.of s1).trans ZL
   have t13:dX H1 H3:=aP.tups (cg hp s1) ZL
   have t03:dX H H3:=aP.tups hp YQ
   refine ⟨pt,rfl,⟨_,bM.of (t13 _ _ ect)⟩,fun D hD=>pL (R':=dZ) (f:=nC by') (fun t z=>z.ts t) hD (t13 _ _ ect) (by omega) (aO (fun _ _ z=>z.ts t13) prt) (fun y r H4 hr' rr s4 bb R hR=>?_) (fun zs H4 s4 eD pz=>?_)⟩
   . obtain ⟨c3,rfl,e3⟩:=rr
     refine ⟨c3,_,rfl,bM.of (s4 _ _ e3),rfl,_,_,rfl,_,_,rfl,rfl,?_⟩
     refine ⟨by show 2<=sizeLine; omega,fun p hp=>?_⟩
     exact hR _ _ ((Same.refl H4).upd hp) ⟨p,rfl,aq⟩
   refine ⟨D,zs,rfl,.inl ⟨dg.of eD,fun Mr agL=>?_⟩⟩
   have s5:Same H4 (upd H4 Mr (.tup zs)):=(Same.refl H4).upd agL
   have rt5:gH (upd H4 Mr (.tup zs)) (.ref Mr) (d8 ss fun n=>m n+by'):=⟨Mr,zs,rfl,aq,by rw [<- DK]; exact aO (fun _ _ z=>z.ts s5.tups) pz⟩
   generalize upd H4 Mr (.tup zs)=H5 at s5 rt5 ⊢
   have S35:=s4.trans s5
   have t05:dX H H5:=t03.trans S35.tups
   refine ⟨x,by',hs,ls,rfl,hx.ts t05,gh,fun xm H6 ZM s6=>?_⟩
   refine ⟨xm,.ref Mr,hs.map (rC by'),ls,rfl,ZM,Rk gh,ZJ gl,.inl ⟨ss,fun n=>m n+by',rt5.ts s6.tups,by rw [Ah]; exact pm,so,fun H7 s7=>?_⟩⟩
   rw [Ro]
   refine ⟨rfl,Ai ?_⟩
   have S37:=(S35.trans s6).trans s7
   have t07:dX H H7:=t03.trans S37.tups
   obtain ⟨a,y,z,rfl,ha,hH0,hL⟩:=id hx
   obtain ⟨c,vh,rfl,hc,ph⟩:=id hH0
   refine gj (bM.of (t07 _ _ ha)) (i:=0) (v:=.ref c) (by rfl) ?_
   refine ⟨c,vh,rfl,bM.of (t07 _ _ hc),fun pr hpr=>?_⟩
   have s8:Same H7 (upd H7 pr (.tup vh.reverse)):=(Same.refl H7).upd hpr
   have e8:upd H7 pr (.tup vh.reverse) pr=some (.tup vh.reverse):=aq
   generalize upd H7 pr (.tup vh.reverse)=H8 at s8 e8 ⊢
   have t08:=t07.trans s8.tups
   refine gj (bM.of (t08 _ _ ha)) (i:=1) (v:=z) (by rfl) ?_
   refine ⟨by show 2<=sizeLine; omega,fun Ww agN=>?_⟩
   have s9:Same H8 (upd H8 Ww (.tup [.ref pr,z])):=(Same.refl H8).upd agN
   have e9:upd H8 Ww (.tup [.ref pr,z]) Ww=some (.tup [.ref pr,z]):=aq
   generalize upd H8 Ww (.tup [.ref pr,z])=H9 at s9 e9 ⊢
   have t09:=t08.trans s9.tups
   have S39:=(S37.trans s8).trans s9
   have t19:dX H1 H9:=t13.trans S39.tups
   refine ⟨.ref Ww,.ref pt,hs.reverse,ls,rfl,⟨Ww,.ref pr,z,rfl,e9,⟨pr,vh.reverse,rfl,s9 _ _ e8,u9 (aO (fun _ _ z=>z.ts t09) ph)⟩,hL.ts t09⟩,Rp gh,ZK gl,.inl ⟨ss,m,rt t19,pm.trans sU.symm,so,fun DW Bl=>?_⟩⟩
   rw [Rq]
   refine ⟨rfl,Ai ?_⟩
   have ZP:=S39.trans Bl
   have agO:=cg hp3 ZP
   have aoW:aP p H DW:=YQ.trans (aP.of ZP)
   have ab8:aP p H1 DW:=ZL.trans (aP.of ZP)
   refine .inr ⟨cR hs ls m,rfl,?_⟩
   obtain ⟨du,edu⟩:∃ du,du=cR hs ls m:=⟨_,rfl⟩
   rw [<- edu]
   refine ⟨.inl ⟨by decide,by decide⟩,?_⟩
   obtain ⟨nn,enn,n0,n4'⟩:∃ nn:Int,nn=4 * (if du=true then 1 else 0)/\0<=nn/\nn<=4/\(du=false->nn=0):=⟨_,rfl,by split <;> omega,by split <;> omega,fun z=>by rw [z]; rfl⟩
   show ∃ n,_
   refine ⟨nn,by rw [enn],by omega,by omega,iz (lo:=0) (n:=nn.toNat) (fun i σ H'=>∃ o7:Option V,σ=[some (.ref p),some (.ref a),some (.ref ia),some (.ref pt),some (.bl du),some (.int by'),some (.ref Mr),o7,none]/\bD H' p/\aP p H1 H') ⟨none,rfl,agO,ab8⟩ (fun i σ Ae hi' hz=>?_) (fun σ Ae hz=>?_)⟩
   . obtain ⟨o7,rfl,ZQ,Ru⟩:=hz
     have dt:du=true:=by
       cases du with
       | true=>rfl
       | false=>have:=n4'.2 rfl; omega
     have Vq:dX H Ae:=s1.tups.trans (aP.tups (cg hp s1) Ru)
     refine ⟨p,.ref a,hs,ls,rfl,ZQ,hx.ts Vq,gh,gl,fun v hs' ls' GF agP gh' Gu nm mono pk' sb'=>?_⟩
     have Rv:=Ru.trans sb'
     refine ⟨v,.ref pt,hs',ls',rfl,agP,gh',Gu,.inl ⟨ss,m,rt (aP.tups (cg hp s1) Rv),by rw [nm]; exact pm,so,fun H13 Qd=>?_⟩⟩
     rw [mono m (edu ▸ dt)]
     exact ⟨_,rfl,cg pk' Qd,Rv.trans (aP.of Qd)⟩
   . obtain ⟨o7,rfl,ZQ,Ru⟩:=hz
     have t11:dX H1 Ae:=aP.tups (cg hp s1) Ru
     have Vq:dX H Ae:=s1.tups.trans t11
     refine ⟨pt,rfl,⟨_,bM.of (t11 _ _ ect)⟩,fun D2 hD2=>pL (R':=dZ) (f:=nC 1000000) (fun t z=>z.ts t) hD2 (t11 _ _ ect) (by omega) (aO (fun _ _ z=>z.ts t11) prt) (fun y r GF hr' rr s12 bb R hR=>?_) (fun zs2 GF s12 eD2 Ww=>?_)⟩
     . obtain ⟨c3,rfl,e3⟩:=rr
       refine ⟨c3,_,rfl,bM.of (s12 _ _ e3),rfl,_,_,rfl,_,_,rfl,rfl,?_⟩
       refine ⟨⟨by decide,by decide,by decide⟩,?_⟩
       refine ⟨by show 2<=sizeLine; omega,fun p hp=>?_⟩
       exact hR _ _ ((Same.refl GF).upd hp) ⟨p,rfl,aq⟩
     refine ⟨D2,zs2,rfl,.inl ⟨dg.of eD2,fun pf hpf=>?_⟩⟩
     have Qd:Same GF (upd GF pf (.tup zs2)):=(Same.refl GF).upd hpf
     have ab9:gH (upd GF pf (.tup zs2)) (.ref pf) (d8 ss fun n=>m n+1000000):=⟨pf,zs2,rfl,aq,by rw [<- DK]; exact aO (fun _ _ z=>z.ts Qd.tups) Ww⟩
     generalize upd GF pf (.tup zs2)=H13 at Qd ab9 ⊢
     have S13:=s12.trans Qd
     refine ⟨.ref a,.ref pf,hs,ls,rfl,hx.ts (Vq.trans S13.tups),gh,gl,.inl ⟨ss,fun n=>m n+1000000,ab9,pm,so,fun H14 s14=>?_⟩⟩
     rw [Rr gh gl far pm]
     have S14:=S13.trans s14
     refine ⟨Nat.zero_le _,fun e0 Zx=>?_⟩
     have s15:Same H14 (upd H14 e0 (.tup [])):=(Same.refl H14).upd Zx
     refine ⟨⟨pt,e0,vt,rfl,rfl,s15 _ _ (S14 _ _ (t11 _ _ ect)),aq,?_⟩⟩
     generalize upd H14 e0 (.tup [])=H15 at s15 ⊢
     have ei:vt.isEmpty=ss.isEmpty:=Vh lvt
     rw [ei]
     refine ⟨rfl,Ai ?_⟩
     have S15:=S14.trans s15
     have agR:aP p H1 H15:=Ru.trans (aP.of S15)
     have acf:aP p H H15:=(aP.of s1).trans agR
     refine ⟨.ref a,ia,hs,ls,m,rfl,hx.ts (Vq.trans S15.tups),gh,gl,(hi.kf hp (m7.ofB acf)).mom.part (fun n hn=>pmn.mem_iff.mpr hn),fun H16 s16=>?_⟩
     rw [<- edu]
     refine ⟨rfl,?_⟩
     rw [decide_eq_true rfl]
     exact q H16 (cg ZQ (S15.trans s16)) (acf.trans (aP.of s16))
end
end mW
namespace mW
open PySem L2 gY
def Jr (K:PySem.W.Frag):Sp:=fun vs H Q _=>∃ (a:Addr) (ns:List Int),vs=[.ref a]/\dg K H a (ns.map V.int)/\ns.length<=63/\(∀ n∈ns,Oz n)/\∀ H',Q (.bl true) H'
def PL1 (a:Addr) (H:Hp):Nat->St->Hp->Prop:=fun i σ H'=>∃ (o1 o2 o3 o4 o5 o6:Option V),σ=[some (.ref a),o1,o2,o3,o4,o5,o6]/\cQ H H'
theorem Vr {n:Nat}:(List.replicate n true).all id=true:=by
 induction n with
 | zero=>rfl
 | succ n ih=>rw [List.replicate_succ,List.all_cons,ih]; rfl
theorem Vs {n:Nat}:(List.replicate n false).any id=false:=by
 induction n with
 | zero=>rfl
 | succ n ih=>rw [List.replicate_succ,List.any_cons,ih]; rfl
theorem Vt {hs:List aJ} {ls:List Letter} {m:Str->Int} (gw:∀ h∈hs,GoodW h) (e:cR hs ls m=true):(∀ n∈namesOf hs,-10000<=m n/\m n<=10000)/\∀ m':Str->Int,(∀ n∈namesOf hs,m n<=m' n)->Far hs m':=by
 have row:∀ h∈hs,∀ r∈bL h,h.low<=r.2-m r.1/\r.2-m r.1<=h.high:=fun h hh r hr=>by
   have z:=(cA.mp (mq e hh)).1 r hr
   unfold jd at z
   exact ⟨of_decide_eq_true (Bool.and_eq_true_iff.mp z).1,of_decide_eq_true (Bool.and_eq_true_iff.mp z).2⟩
 refine ⟨fun n hn=>?_,fun m' le h hh r hr=>?_⟩
 . obtain ⟨h,hh,hn'⟩:=List.mem_flatMap.mp hn
   obtain ⟨r,hr,rfl⟩:=List.mem_map.mp hn'
   have z:=row h hh r hr
   have g:=gw h hh
   have z1:=g.ae2
   have z2:=g.abz
   have z3:=g.near r hr
   omega
 . have z:=row h hh r hr
   have z1:=(gw h hh).narrow
   have z2:=le r.1 (List.mem_flatMap.mpr ⟨h,hh,List.mem_map_of_mem hr⟩)
   omega
def Three (hs:List aJ) (as:List Addr) (H:Hp):Prop:=∀ a∈as,∃ m ns,InstAt H a m ns/\ns.Perm (namesOf hs)/\Far hs m
theorem Three.kf {hs:List aJ} {as:List Addr} {p:Addr} {H H':Hp} (h:Three hs as H) (pk:bD H p) (s:m7 p H H'):Three hs as H':=fun a ha=>let ⟨m,ns,i,r⟩:=h a ha; ⟨m,ns,i.kf pk s,r⟩
section
variable {P:Program} {w:World} {K:PySem.W.Frag} {mg:Str->Option Value} {base:Heap} {t8:Tok}
theorem qF:bG ["_law_script","_law_k","_law_ledger_here","_law_pack_here","_law_least","_law_greatest","_law_between"] ["_law_script"] (aA ur):=⟨rfl,rfl,rfl,by decide +kernel,rfl,by decide +kernel,by decide +kernel⟩
theorem ZR {f qG qw dG sW Am jm qD Rw:Addr} {fd ud qZ dU wI DR j6 rE Rx:FuncData} (F:nG K "law" "law" ur f fd) (T:Txt mg t8)
   (GZ:aX P w K mg base dM 6 qG ud ["_law_script","_law_k"] (qu K)) (Hf:mg "_law_ledger" = some (.ref qG)) (Hg:PySem.W.keepIn K (.ref qG)=true) (Hi:Binds K ud ["_law_script","_law_k"] [])
   (vP:aX P w K mg base dM 6 qw qZ ["_law_script","_law_k"] (zx K)) (vQ:mg "_law_pack" = some (.ref qw)) (vR:PySem.W.keepIn K (.ref qw)=true) (vU:Binds K qZ ["_law_script","_law_k"] [])
   (cH:aX P w K mg base dM 6 dG dU ["_law_pack_here","_law_size"] mR) (cI:mg "_law_take" = some (.ref dG)) (cJ:PySem.W.keepIn K (.ref dG)=true) (cL:Binds K dU ["_law_pack_here","_law_size"] [])
   (yt:aX P w K mg base dM 6 sW wI ["_law_ledger_here","_law_side"] sO) (yu:mg "_law_moments" = some (.ref sW)) (yw:PySem.W.keepIn K (.ref sW)=true) (yx:Binds K wI ["_law_ledger_here","_law_side"] [])
   (Vu:aX P w K mg base dM 6 Am DR ["_law_pack_here","_law_ledger_here","_law_instants"] Aj) (Vv:mg "_law_right" = some (.ref Am)) (Vw:PySem.W.keepIn K (.ref Am)=true) (Vx:Binds K DR ["_law_pack_here","_law_ledger_here","_law_instants"] [])
   (jo:aX P w K mg base dM 6 jm j6 ["ledger","thing"] pK) (jq:mg "is_placing" = some (.ref jm)) (jr:PySem.W.keepIn K (.ref jm)=true) (jt:Binds K j6 ["ledger","thing"] [])
   (GP:aX P w K mg base dM 6 qD rE ["_law_instants"] zW) (GQ:mg "_law_told" = some (.ref qD)) (GR:PySem.W.keepIn K (.ref qD)=true) (GX:Binds K rE ["_law_instants"] [])
   (acg:aX P w K mg base dM 6 Rw Rx ["_law_placing"] Ri) (ach:mg "_law_odd" = some (.ref Rw)) (aci:PySem.W.keepIn K (.ref Rw)=true) (acj:Binds K Rx ["_law_placing"] []):aX P w K mg base dM 7 f fd ["_law_script"] (Jr K):=by
 refine F.ok qF (fun vs H Q E h=>?_) (fun cdv A outer s H vs Q E hr h=>?_)
 . obtain ⟨a,ns,rfl,_⟩:=h
   rfl
 . obtain ⟨a,ns,rfl,ha,hl,hb,q⟩:=h
   refine ⟨_,(au (cY PassesOwn.never rfl (Kd rfl T.range (aj aD (aj (aU (oY rfl) rfl T.max PyProof.Rows.boot_max (aj aD (aj (aU (JF rfl) rfl T.min PyProof.Rows.boot_min (aj (aU bT rfl T.len PySem.boot_len (aj (pV 0) ak)) (aj aD ak))) ak))) (aj aD ak)))) (aB (i:=1) qF.nd rfl (Or.inl rfl)) (au (aV (i:=2) qF.nd rfl (Or.inr rfl) (aM GZ hr rfl Hf Hg Hi .nil bf (aj (pV 0) (aj (pV 1) ak)))) (au (aV (i:=3) qF.nd rfl (Or.inr rfl) (aM vP hr rfl vQ vR vU .nil bf (aj (pV 0) (aj (aY gF (pV 1) aD) ak)))) (au (kY (bI (aj (aM yt hr rfl yu yw yx .nil bf (aj (pV 2) (aj aD ak))) (aj (aM yt hr rfl yu yw yx .nil bf (aj (pV 2) (aj aD ak))) ak))) (cT rfl (aG (aB (i:=4) qF.nd rfl (Or.inr rfl)) (aG (aB (i:=5) qF.nd rfl (Or.inr rfl)) bR)))) (au (aV (i:=6) qF.nd rfl (Or.inl rfl) (dB (Fq rfl) rfl T.dict (show bootBuiltins "dict" = some (.type "dict") by decide +kernel) (aj (dJ (g8:=aA ur) (own:=["_law_row"]) (cap:=["_law_greatest","_law_least","_law_pack_here"]) (ix:=[5,4,3]) rfl rfl ⟨rfl,by decide +kernel,by decide +kernel,by decide +kernel,rfl,by decide +kernel⟩ (Tp (pV 4)) (fun b=>(aB (i:=0) (show (["_law_row","_law_greatest","_law_least","_law_pack_here"]:List Str).Nodup by decide +kernel) rfl (Or.inl rfl))) (fun b=>bU) (fun b=>(bI (aj (pV 0) (aj (aY gF (bZ (cV hr) (pV 2) (pV 0) (fun _ _=>rfl)) (aM cH hr rfl cI cJ cL .nil bf (aj (pV 3) (aj (aY gF (aY jB (bZ (cV hr) (pV 1) (pV 0) (fun _ _=>rfl)) (bZ (cV hr) (pV 2) (pV 0) (fun _ _=>rfl))) aD) ak)))) ak))))) ak))) (au (eV (kW (L2.iY (aU (jA rfl) rfl T.all PyProof.Rows.boot_all (aj (dJ (g8:=aA ur) (own:=["_law_some"]) (cap:=["_law_ledger_here","_law_pack_here"]) (ix:=[2,3]) rfl rfl ⟨rfl,by decide +kernel,by decide +kernel,by decide +kernel,rfl,by decide +kernel⟩ (fO (fQ (aj (pV 4) (aj (pV 5) (aj (pV 6) ak))))) (fun b=>(aB (i:=0) (show (["_law_some","_law_ledger_here","_law_pack_here"]:List Str).Nodup by decide +kernel) rfl (Or.inl rfl))) (fun b=>bU) (fun b=>(aM Vu hr rfl Vv Vw Vx .nil bf (aj (pV 2) (aj (pV 1) (aj (pV 0) ak)))))) ak)))) (aH (aZ iH)) bO) (aH (eV (L2.iY (aU (BR rfl) rfl T.any (show bootBuiltins "any" = some (.builtin "any") by decide +kernel) (aj (dJ (g8:=aA ur) (own:=["_law_thing"]) (cap:=["_law_ledger_here"]) (ix:=[2]) rfl rfl ⟨rfl,by decide +kernel,by decide +kernel,by decide +kernel,rfl,by decide +kernel⟩ (fO (aM acg hr rfl ach aci acj .nil bf (aj (aM GP hr rfl GQ GR GX .nil bf (aj (pV 4) ak)) ak))) (fun b=>(aB (i:=0) (show (["_law_thing","_law_ledger_here"]:List Str).Nodup by decide +kernel) rfl (Or.inl rfl))) (fun b=>bU) (fun b=>(MK (Ky (aM jo hr rfl jq jr jt .nil bf (aj (pV 1) (aj (pV 0) ak))))))) ak))) (aH (aZ iH)) bO)))))))) (aH (aZ iH))),?_⟩
   have mJ:sizeLine=16777216:=sizeLine_eq
   refine ⟨a,_,rfl,.inl ha,?_⟩
   refine ⟨_,21,rfl,?_⟩
   refine ⟨1,_,rfl,?_⟩
   obtain ⟨mx,emx,mx1,mx2⟩:∃ mx:Int,mx=(if (if (21:Int)<((ns.map V.int).length:Int) then 21 else ((ns.map V.int).length:Int)) > 1 then (if (21:Int)<((ns.map V.int).length:Int) then 21 else ((ns.map V.int).length:Int)) else 1)/\1<=mx/\mx<=21:=⟨_,rfl,by split <;> omega,by split <;> (try split) <;> omega⟩
   rw [<- emx]
   have en:Builtin.Range.rangeSize 0 mx 7<=3:=by
     unfold Builtin.Range.rangeSize
     rw [if_pos (by decide),if_pos (by omega)]
     omega
   refine ⟨0,mx,7,rfl,⟨by decide,by decide,by omega,by omega,by decide,by decide⟩,Ga (PL1 a H) ⟨none,none,none,none,none,none,rfl,cQ.refl H⟩ (fun i σ H1 hi hz=>?_) (fun σ H1 hz=>?_)⟩
   rotate_left
   . obtain ⟨o1,o2,o3,o4,o5,o6,rfl,S1⟩:=hz
     exact q H1
   obtain ⟨o1,o2,o3,o4,o5,o6,rfl,S1⟩:=hz
   refine ⟨a,ns,0+(i:Int) * 7,rfl,ab2 S1 ha,hb,hl,by omega,by omega,fun x hs ls H2 lat gh gl nm gw agS s2=>?_⟩
   obtain ⟨m0,em0⟩:=agS
   have S2:=S1.trans (cQ.of s2)
   refine ⟨a,ns,0+(i:Int) * 7+6,rfl,ab2 S2 ha,hb,hl,by omega,by omega,fun p H3 fp pk s3=>?_⟩
   have S3:=S2.trans (cQ.of s3)
   have fpH:H p=none:=by
     cases z:H p with
     | none=>rfl
     | some u =>
       rcases S2 p u z with w | ⟨_,_,_,w⟩ <;> (rw [fp] at w; cases w)
   have ZS:=lat.ts s3.tups
   have few:=gh.few
   refine ⟨x,0,hs,ls,rfl,.inl rfl,ZS,gh,gl,(fun H4 s4 no=>by rw [no m0] at em0; cases em0),(fun al ml ss1 H4 fal eal Vy s4 g0 g1=>?_)⟩
   have pl:=g0 rfl
   refine ⟨x,1,hs,ls,rfl,.inr rfl,ZS.ts s4.tups,gh,gl,(fun H5 s5 no=>by rw [no ml] at pl; cases pl),(fun ag mg' ss2 H5 fag eag Mr s5 _ g1'=>?_)⟩
   obtain ⟨u1,u2⟩:=g1' rfl
   refine ⟨by show 2<=sizeLine; omega,fun t ft=>?_⟩
   refine ⟨t,_,rfl,bM.of aq,rfl,_,_,rfl,_,_,rfl,rfl,?_⟩
   have s6:Same H5 (upd H5 t (.tup [.ref al,.ref ag])):=(Same.refl H5).upd ft
   generalize upd H5 t (.tup [.ref al,.ref ag])=H6 at s6 ⊢
   have S36:=(s4.trans s5).trans s6
   have i1:∀ {H':Hp} {b:Addr} {m:Str->Int} {ss:List Str},H' b=some (.dK (Jg ss m))->InstAt H' b m ss:=fun e=>⟨_,.inl e,v7 _ _,fun n hn=>zU hn⟩
   have il:=i1 (s6 _ _ (s5 _ _ eal))
   have ig:=i1 (s6 _ _ eag)
   have Qo:=cg pk S36
   have ZM:=ZS.ts S36.tups
   have S6:=S3.trans (cQ.of S36)
   clear g0 g1 g1' eal eag i1
   have gap:∀ n∈namesOf hs,0<=mg' n-ml n/\mg' n-ml n<=300:=fun n hn=>by
     have z1:=u1 ml pl n (Mr.mem_iff.mpr hn)
     obtain ⟨k,hk,hn'⟩:=List.mem_flatMap.mp hn
     obtain ⟨r,hr',rfl⟩:=List.mem_map.mp hn'
     have z2:=u2 k hk r hr'
     have z3:=(cA.mp (mq pl hk)).1 r hr'
     unfold jd at z3
     have z4:r.2-ml r.1<=k.high:=of_decide_eq_true (Bool.and_eq_true_iff.mp z3).2
     have z5:=(gw k hk).narrow
     omega
   obtain ⟨acn,ZV⟩:=Vt gw pl
   have nds:ss1.Nodup:=Vy.nodup_iff.mpr gh.rows
   have lss:=Vy.length_eq
   obtain ⟨kvs,rd,ek,ev⟩:=id il
   have nap:=Ws Qo rd
   refine ⟨al,kvs,rfl,rd,fun ob H7 e7 sf7 aco=>?_⟩
   have pk7:bD H7 p:=by obtain ⟨n,e,n0⟩:=Qo; exact ⟨n,by rw [aco p (Ne.symm nap)]; exact e,n0⟩
   have lk:kvs.length=ss1.length:=by have z:=congrArg List.length ek; rw [List.length_map,List.length_map] at z; exact z
   refine fun D2 hD2=>Kw (a:=al) (o:=ob) (kvs:=kvs) (fun j H'=>∃ ps:List (Addr × Key × V),H' D2=some (.lst (ps.map fun q=>.ref q.1))/\(∀ q∈ps,H' q.1=some (.tup [kV q.2.1,q.2.2]))/\ps.map (·.2.1)=(kvs.take j).map (·.1)/\(∀ q∈ps,∃ (n:Str) (z:Int),q.2.1=.inr n/\q.2.2=.int z/\ml n<=z)/\bD H' p/\m7 p H7 H') ⟨[],aq,fun q hq=>by simp at hq,rfl,fun q hq=>by simp at hq,pk7.new hD2,m7.of ((Same.refl H7).upd hD2)⟩ (fun j H' _ hz=>by obtain ⟨_,_,_,_,_,_,K4⟩:=hz; exact K4.nu nap e7) (fun H8 hz=>?_) (fun j kk xv H8 hk hj hz b=>?_)
   rotate_left
   . obtain ⟨ps,eL,eT,ks,vi,pk8,K78⟩:=hz
     have K68:m7 p H6 H8:=(m7.ofF sf7).trans K78
     obtain ⟨n,hn,rfl⟩:∃ n,ss1[j]?=some n/\kk=.inr n:=by
       have z:(kvs.map (·.1))[j]?=some kk:=by rw [List.getElem?_map,hk]; rfl
       rw [ek,List.getElem?_map] at z
       obtain ⟨n,e1,e2⟩:=Option.map_eq_some_iff.mp z
       exact ⟨n,e1,e2.symm⟩
     have hn0:=Vy.mem_iff.mp (List.mem_of_getElem? hn)
     have gp:=gap n hn0
     have gl8:=(il.kf Qo K68).mom.get (List.mem_of_getElem? hn)
     have gg8:=(ig.kf Qo K68).mom.get (Mr.mem_iff.mpr hn0)
     refine ⟨al,.int (ml n),rfl,gl8,?_⟩
     refine ⟨ag,.int (mg' n),rfl,gg8,?_⟩
     refine ⟨al,.int (ml n),rfl,gl8,?_⟩
     refine ⟨p,mg' n-ml n+1,rfl,pk8,by omega,by omega,fun dd H9 d0 d1 Wx sb9=>?_⟩
     refine ⟨by show 2<=sizeLine; omega,fun t ft=>?_⟩
     have Bl:Same H9 (upd H9 t (.tup [kV (Sum.inr n),(fun i j=>V.int (i+j)) (ml n) dd])):=(Same.refl H9).upd ft
     have e10:upd H9 t (.tup [kV (Sum.inr n),(fun i j=>V.int (i+j)) (ml n) dd]) t=some (.tup [.str n,.int (ml n+dd)]):=aq
     generalize upd H9 t (.tup [kV (Sum.inr n),(fun i j=>V.int (i+j)) (ml n) dd])=DW at Bl e10 ⊢
     have ZW:m7 p H8 DW:=(m7.ofB sb9).trans (m7.of Bl)
     have acq:D2≠p:=fun z=>by obtain ⟨n,e,_⟩:=pk7; rw [<- z,hD2] at e; cases e
     have acr:=ZW.lst acq eL
     have lps:ps.length=j:=by
       have z:=congrArg List.length ks
       rw [List.length_map,List.length_map,List.length_take] at z
       omega
     have tt:dX DW (upd DW D2 (.lst (ps.map (fun q=>V.ref q.1)++[.ref t]))):=fun c xs e=>by rw [aL (fun z=>by rw [z,acr] at e; cases e)]; exact e
     refine ⟨_,acr,by rw [List.length_map]; omega,nx hj ⟨ps++[(t,.inr n,.int (ml n+dd))],by rw [aq,List.map_append]; rfl,fun q hq=>?_,?_,fun q hq=>?_,?_,fun b o nb e=>?_⟩⟩
     . rcases List.mem_append.mp hq with z | z
       . exact tt _ _ (ZW.tup (tup_ne pk8 (eT q z)) (eT q z))
       . rw [List.mem_singleton.mp z]; exact tt _ _ e10
     . rw [List.map_append,ks,List.take_add_one,hk,List.map_append]; rfl
     . rcases List.mem_append.mp hq with z | z
       . exact vi q z
       . rw [List.mem_singleton.mp z]; exact ⟨n,_,rfl,rfl,by omega⟩
     . obtain ⟨n',e,n0⟩:=cg Wx Bl
       exact ⟨n',by rw [aL (Ne.symm acq)]; exact e,n0⟩
     . rw [aL (fun z=>by rw [z,hD2] at e; cases e)]
       exact (K78.trans ZW) b o nb e
   obtain ⟨ps,eL,eT,ks,vi,pk8,K78⟩:=hz
   rw [List.take_length,ek] at ks
   refine ⟨D2,ps,rfl,eL,eT,fun ab fab=>?_⟩
   have kL:(ps.map (·.2)).map (·.1)=ss1.map Sum.inr:=by rw [List.map_map]; exact ks
   obtain ⟨mb,hmb⟩:=Q7 (P:=fun n z=>ml n<=z) kL (fun q hq=>by obtain ⟨q',hq',rfl⟩:=List.mem_map.mp hq; exact vi q' hq')
   have em:gA [] (ps.map (·.2))=ps.map (·.2):=Mf (by rw [kL]; exact Ma nds)
   rw [em]
   have s9:Same H8 (upd H8 ab (.dK (ps.map (·.2)))):=(Same.refl H8).upd fab
   have e9:upd H8 ab (.dK (ps.map (·.2))) ab=some (.dK (ps.map (·.2))):=aq
   generalize upd H8 ab (.dK (ps.map (·.2)))=H9 at s9 e9 ⊢
   have Wx:=cg pk8 s9
   have K69:m7 p H6 H9:=((m7.ofF sf7).trans K78).trans (m7.of s9)
   have acs:=ZM.ts (K69.tups Qo)
   have S9:cQ H H9:=Wt S6 fpH K69
   have il9:=il.kf Qo K69
   have th9:Three hs [al,ag,ab] H9:=fun b hb'=>by
     simp only [List.mem_cons,List.not_mem_nil,or_false] at hb'
     rcases hb' with rfl | rfl | rfl
     . exact ⟨ml,ss1,il9,Vy,ZV ml fun n _=>Int.le_refl _⟩
     . exact ⟨mg',ss2,ig.kf Qo K69,Mr,ZV mg' fun n hn=>by have:=gap n hn; omega⟩
     . exact ⟨mb,ss1,⟨_,.inl e9,kL,fun n hn=>(hmb n hn).1⟩,Vy,ZV mb fun n hn=>(hmb n (Vy.mem_iff.mpr hn)).2⟩
   clear eL eT ks vi K78 e7 sf7 aco ig il rd
   refine ⟨by show 3<=sizeLine; omega,fun l3 fl3=>?_⟩
   have Bl:Same H9 (upd H9 l3 (.lst [.ref al,.ref ag,.ref ab])):=(Same.refl H9).upd fl3
   have e10:upd H9 l3 (.lst [.ref al,.ref ag,.ref ab]) l3=some (.lst [.ref al,.ref ag,.ref ab]):=aq
   generalize upd H9 l3 (.lst [.ref al,.ref ag,.ref ab])=DW at Bl e10 ⊢
   have acu:=cg Wx Bl
   have nl3:l3≠p:=fun z=>by obtain ⟨n,e,_⟩:=Wx; rw [<- z,fl3] at e; cases e
   have acv:m7 p H9 DW:=m7.of Bl
   refine ⟨l3,rfl,⟨_,dg.of e10⟩,fun D hD=>pB (xs:=[.ref al,.ref ag,.ref ab]) (fun j H'=>H' D=some (.lst ((List.replicate j true).map V.bl))/\bD H' p/\m7 p DW H') ⟨aq,acu.new hD,m7.of ((Same.refl DW).upd hD)⟩ (fun j H' _ hz=>dg.of (hz.2.2.lst nl3 e10)) (fun Ae hz=>?_) (fun j v Ae hv hj hz b=>?_)⟩
   rotate_left
   . obtain ⟨eD,acw,Js⟩:=hz
     have Ms:=acv.trans Js
     obtain ⟨va,hva,rfl⟩:∃ va∈[al,ag,ab],v=.ref va:=by
       have z:=List.mem_of_getElem? hv
       simp only [List.mem_cons,List.not_mem_nil,or_false] at z
       rcases z with rfl | rfl | rfl
       . exact ⟨al,by simp,rfl⟩
       . exact ⟨ag,by simp,rfl⟩
       . exact ⟨ab,by simp,rfl⟩
     obtain ⟨mv,nv,iv,pv,fv⟩:=(th9.kf Wx Ms) va hva
     refine ⟨p,va,x,hs,ls,mv,nv,rfl,acw,acs.ts (Ms.tups Wx),gh,gl,iv,pv,fv,fun GF agV Rv=>?_⟩
     have nDp:D≠p:=fun z=>by obtain ⟨n,e,_⟩:=acu; rw [<- z,hD] at e; cases e
     have lj:j<3:=hj
     refine ⟨_,Rv D _ nDp eD,by rw [List.length_map,List.length_replicate]; omega,nx hj ⟨by rw [aq,List.replicate_succ',List.map_append]; rfl,agV.put nDp,fun b o nb e=>?_⟩⟩
     rw [aL (fun z=>by rw [z,hD] at e; cases e)]
     exact (Js.trans (m7.ofB Rv)) b o nb e
   obtain ⟨eD,acw,Js⟩:=hz
   refine ⟨D,List.replicate 3 true,rfl,dg.of eD,?_⟩
   rw [Vr]
   have Ms:=acv.trans Js
   have acy:=acs.ts (Ms.tups Wx)
   have agW:=il9.kf Wx Ms
   have S11:cQ H Ae:=Wt S9 fpH Ms
   refine ⟨al,ml,ss1,rfl,agW,by omega,fun pt ss GF rt pm0 so s12=>?_⟩
   have pm:=pm0.trans Vy
   have gss:∀ s∈ss,Good s:=fun s hs'=>oW gh (pm.mem_iff.mp hs')
   refine ⟨.ref pt,ss,ml,rfl,rt,gss,pm.nodup_iff.mpr gh.rows,by rw [pm.length_eq]; exact few,fun s hs'=>acn s (pm.mem_iff.mp hs'),fun lo ws ds H13 elo dws lds odd Qd=>?_⟩
   have S13:=s12.trans Qd
   have ldw:=dws.len
   refine ⟨lo,rfl,⟨_,dg.of elo⟩,fun D3 hD3=>lY (xs:=ws) (ys:=(List.replicate ws.length false).map V.bl) hD3 elo (by omega) (by rw [List.length_map,List.length_replicate]) (fun j y H14 hy s14 b R hR=>?_) (fun H14 s14 e14=>?_)⟩
   . obtain ⟨dd,hdd,da⟩:=dws.get hy
     refine ⟨x,y,hs,ls,rfl,acy.ts (S13.trans s14).tups,gh,gl,.inr ⟨dd,da.same s14,⟨ss,⟨pm,so⟩,odd dd (List.mem_of_getElem? hdd)⟩,fun H15 s15=>?_⟩⟩
     refine ⟨false,rfl,?_⟩
     have lj:=(List.getElem?_eq_some_iff.mp hy).1
     exact hR H15 _ (by rw [List.getElem?_map,List.getElem?_replicate,if_pos lj]; rfl) s15
   . refine ⟨D3,List.replicate ws.length false,rfl,dg.of e14,?_⟩
     rw [Vs]
     exact ⟨_,_,_,_,_,_,rfl,S11.trans (cQ.of (S13.trans s14))⟩
end
end mW
namespace mW
open PySem L2 gY
theorem wJ:∀ {xs:List PySem.W.WData} {x:PySem.W.WData},x∈xs->PySem.W.WData.weight x<=PySem.W.WData.weightAll xs
 | y :: xs,x,h=>by
   unfold PySem.W.WData.weightAll
   rcases List.mem_cons.mp h with z | z
   . rw [z]; omega
   . have:=wJ z; omega
theorem Vz {ns:List Int} (h:PySem.W.WData.layableAll [PySem.W.WData.list (ns.map PySem.W.WData.int)]=true):∀ n∈ns,Oz n:=fun n hn=>by
 have h1:=List.all_eq_true.mp h _ List.mem_cons_self
 unfold PySem.W.WData.layable at h1
 have h2:=of_decide_eq_true (Bool.and_eq_true_iff.mp h1).2
 unfold PySem.W.WData.weight at h2
 have h3:=wJ (List.mem_map_of_mem (f:=PySem.W.WData.int) hn)
 unfold PySem.W.WData.weight at h3
 have e:(2:Nat) ^ 20=1048576:=by decide
 rw [e] at h2
 exact Nat.le_trans h3 h2
theorem Mt {l:PySem.W.OpenLaw} {n k:Nat} {q:Program} {loose:List Str} {XP:(Str->Option Value)->Heap->Prop} {YP:World->Heap->Prop} {d:DefRec} {K:Params->PySem.W.Frag} {CX:World->JL} {sp:World->Sp} {x:Str}
   (hn:l.most=some n) (hn2:n<=sizeLine) (hdf:d.params.defaults=[]) (hr:kZ k callerA) (hY:∀ (w:World) (h:Heap),YP w h->(K w.params).In h)
   (F:∀ (w:World) (mg:Str->Option Value) (fa:Addr) (h:Heap),(K w.params).In h->h.Ns mainGlobals mg->mg d.name=some (.ref fa) ->
     ∃ fd:FuncData,(∀ (s:Shared) (u:Value),BindsTo s fd ⟨[u],[]⟩ [(x,u)])/\∀ base:Heap,(K w.params).In base->base.Ns mainGlobals mg->aX l.prog w (K w.params) mg base (CX w) k fa fd [x] (sp w))
   (hsp:∀ (w:World) (H:Hp) (a:Addr) (ns:List Int),ns.length<=n->(∀ m∈ns,Oz m)->Only H->dg (K w.params) H a (ns.map V.int)->sp w [.ref a] H (fun v _=>v=.bl true) fun _ _ _=>False)
   (hCX:∀ (w:World) (H:Hp) (s:Shared) (e:Value) (s':Shared),CX w [] H s (fun _ _ _=>False) e s'->False):PySem.W.WalkO q loose XP YP l.row.toRowW d [] (fun f vs=>PySem.call f vs):=by
 intro w s₀ s₁ mg mb G Y fa o pm cd doc dV kV ho hd hcd hD hmg hg args vals as hpre hlay hrd hwl hlo
 obtain rfl:dV=.none:=PySem.W.Dflts.none hD hdf
 obtain rfl:kV=.none:=PySem.W.Dflts.noKw hD
 obtain ⟨a,vs,ns,rfl,rfl,hobj,hints,hlen⟩:=Att.JX hn hpre hwl
 have KX:=hY w _ Y
 obtain ⟨fd,hb,hF⟩:=F w mg fa _ KX G.T.g hmg
 have key:=Nk KX G.T.g G.T.b G.T.builtins G.T.nolimit hg hobj hints (Nat.le_trans hlen hn2) hr hF hb (fun H hO hS=>hsp w H a ns hlen (Vz hlay) hO hS) fun H e s'=>hCX w H s₁ e s'
 refine PySem.W.enter_call (codeAny_mono key fun r s' hq=>?_)
 obtain ⟨rfl,h2,h3,h4⟩:=hq
 exact ⟨.inl ⟨.bool true,.bool true,[],rfl,fun _=>rfl,.bool true,Att.JZ l _,fun _=>⟨List.Pairwise.nil,fun _ hm=>(nomatch hm)⟩⟩,h2,h3,h4⟩
theorem all_mk {l:PySem.W.OpenLaw} {w:World} {K:PySem.W.Frag} {h:Heap} {mg:Str->Option Value} {fa f1 f2 f3 f4 f5 f6 f7 f8 f9 f10 f11 f12 f13 f14 f15 f16 f17 f18 f19 f20 f21 f22 f23 f24 f25 f26 f27 f28 f29 f30 f31:Addr} {t8:Tok} (X:K.In h) (G:h.Ns mainGlobals mg) (hfa:mg "law" = some (.ref fa))
   {od1 an1 od2 an2 od3 an3 od4 an4 od5 an5 od6 an6 od7 an7 od8 an8 od9 an9 agY agZ ag0 ag1 ag2 ag3 ag4 ag5 ag6 ag7 ag8 ag9 aha ahb ahc ahd ahe ahf ahg ahh ahi ahj ahk ahl ahm ahn aho ahp ahq ahr ahs aht ahu ahv ahw ahx ahy ahz ahA ahB ahC ahD ahE acz:Option Addr} {sl1 sl2 sl3 sl4 sl5 sl6 sl7 sl8 sl9 ahF ahG ahH ahI ahJ ahK ahL ahM ahN ahO ahP ahQ ahR ahS ahT ahU ahV ahW ahX ahY ahZ ah0:Array (Option Value)} {oc1 kV1 dc1 Vy cd1 ct1 oc2 kV2 dc2 Mr cd2 ct2 oc3 kV3 dc3 pm3 cd3 ct3 oc4 kV4 dc4 pm4 cd4 ct4 oc5 kV5 dc5 pm5 cd5 ct5 oc6 kV6 dc6 pm6 cd6 ct6 oc7 kV7 dc7 pm7 cd7 ct7 oc8 kV8 dc8 pm8 cd8 ct8 oc9 kV9 dc9 pm9 cd9 ct9 ah1 ah2 ah3 ah4 acA ah5 ah6 ah7 ah8 ah9 acB aia aib aic aie aif acC aii aij aik ail ain acD aio aip aiq air ais acE ait aiu aiv aiw aix acF aiy aiz aiA aiB aiC acG aiD aiE aiF aiG aiH acH aiI aiJ aiK aiL aiM acI aiN aiO aiP aiQ aiR acJ aiS aiT aiU aiV aiW acK aiX aiY aiZ ai0 ai1 acL ai2 ai3 ai4 ai5 ai6 acM ai7 ai8 ai9 aja ajb acN ajc ajd aje ajf ajg acO ajh aji ajj ajk ajl acP ajm ajn ajo ajp ajq acQ ajr ajs ajt aju ajv acR ajw ajx ajy ajz ajA acS ajB ajC ajD ajE ajF acT ajG ajH ajI ajJ ajK acU ajL ajM acV acW acX ZX acY:Value}
   (a1:PySem.W.nsIn K mainGlobals "is_whole" = some (some (.ref f1))) (l1:K.lookup f1=some ⟨oc1,od1,.func (PySem.W.fnOf "is_whole" "is_whole" (bC rT) (bB rT) (aA rT) .none kV1 dc1 Vy an1 cd1 ct1),sl1⟩) (c1:PySem.W.codeIn K cd1 "is_whole" = true) (k1:PySem.W.keepIn K (.ref f1)=true)
   (a2:PySem.W.nsIn K mainGlobals "is_name" = some (some (.ref f2))) (l2:K.lookup f2=some ⟨oc2,od2,.func (PySem.W.fnOf "is_name" "is_name" (bC vH) (bB vH) (aA vH) .none kV2 dc2 Mr an2 cd2 ct2),sl2⟩) (c2:PySem.W.codeIn K cd2 "is_name" = true) (k2:PySem.W.keepIn K (.ref f2)=true)
   (a3:PySem.W.nsIn K mainGlobals "has_parts" = some (some (.ref f3))) (l3:K.lookup f3=some ⟨oc3,od3,.func (PySem.W.fnOf "has_parts" "has_parts" (bC rU) (bB rU) (aA rU) .none kV3 dc3 pm3 an3 cd3 ct3),sl3⟩) (c3:PySem.W.codeIn K cd3 "has_parts" = true) (k3:PySem.W.keepIn K (.ref f3)=true)
   (a4:PySem.W.nsIn K mainGlobals "is_named_number" = some (some (.ref f4))) (l4:K.lookup f4=some ⟨oc4,od4,.func (PySem.W.fnOf "is_named_number" "is_named_number" (bC rW) (bB rW) (aA rW) .none kV4 dc4 pm4 an4 cd4 ct4),sl4⟩) (c4:PySem.W.codeIn K cd4 "is_named_number" = true) (k4:PySem.W.keepIn K (.ref f4)=true)
   (a5:PySem.W.nsIn K mainGlobals "rows_in" = some (some (.ref f5))) (l5:K.lookup f5=some ⟨oc5,od5,.func (PySem.W.fnOf "rows_in" "rows_in" (bC mX) (bB mX) (aA mX) .none kV5 dc5 pm5 an5 cd5 ct5),sl5⟩) (c5:PySem.W.codeIn K cd5 "rows_in" = true) (k5:PySem.W.keepIn K (.ref f5)=true)
   (a6:PySem.W.nsIn K mainGlobals "neighbours_in" = some (some (.ref f6))) (l6:K.lookup f6=some ⟨oc6,od6,.func (PySem.W.fnOf "neighbours_in" "neighbours_in" (bC qt) (bB qt) (aA qt) .none kV6 dc6 pm6 an6 cd6 ct6),sl6⟩) (c6:PySem.W.codeIn K cd6 "neighbours_in" = true) (k6:PySem.W.keepIn K (.ref f6)=true)
   (a7:PySem.W.nsIn K mainGlobals "row_names" = some (some (.ref f7))) (l7:K.lookup f7=some ⟨oc7,od7,.func (PySem.W.fnOf "row_names" "row_names" (bC jk) (bB jk) (aA jk) .none kV7 dc7 pm7 an7 cd7 ct7),sl7⟩) (c7:PySem.W.codeIn K cd7 "row_names" = true) (k7:PySem.W.keepIn K (.ref f7)=true)
   (a8:PySem.W.nsIn K mainGlobals "rows_of" = some (some (.ref f8))) (l8:K.lookup f8=some ⟨oc8,od8,.func (PySem.W.fnOf "rows_of" "rows_of" (bC pJ) (bB pJ) (aA pJ) .none kV8 dc8 pm8 an8 cd8 ct8),sl8⟩) (c8:PySem.W.codeIn K cd8 "rows_of" = true) (k8:PySem.W.keepIn K (.ref f8)=true)
   (a9:PySem.W.nsIn K mainGlobals "names_each_row" = some (some (.ref f9))) (l9:K.lookup f9=some ⟨oc9,od9,.func (PySem.W.fnOf "names_each_row" "names_each_row" (bC tQ) (bB tQ) (aA tQ) .none kV9 dc9 pm9 an9 cd9 ct9),sl9⟩) (c9:PySem.W.codeIn K cd9 "names_each_row" = true) (k9:PySem.W.keepIn K (.ref f9)=true)
   (a10:PySem.W.nsIn K mainGlobals "keeps_drift" = some (some (.ref f10))) (l10:K.lookup f10=some ⟨ah1,agY,.func (PySem.W.fnOf "keeps_drift" "keeps_drift" (bC mY) (bB mY) (aA mY) .none ah2 ah3 ah4 agZ acA ah5),ahF⟩) (c10:PySem.W.codeIn K acA "keeps_drift" = true) (k10:PySem.W.keepIn K (.ref f10)=true)
   (a11:PySem.W.nsIn K mainGlobals "keeps_house" = some (some (.ref f11))) (l11:K.lookup f11=some ⟨ah6,ag0,.func (PySem.W.fnOf "keeps_house" "keeps_house" (bC jL) (bB jL) (aA jL) .none ah7 ah8 ah9 ag1 acB aia),ahG⟩) (c11:PySem.W.codeIn K acB "keeps_house" = true) (k11:PySem.W.keepIn K (.ref f11)=true)
   (a12:PySem.W.nsIn K mainGlobals "keeps_letter" = some (some (.ref f12))) (l12:K.lookup f12=some ⟨aib,ag2,.func (PySem.W.fnOf "keeps_letter" "keeps_letter" (bC lQ) (bB lQ) (aA lQ) .none aic aie aif ag3 acC aii),ahH⟩) (c12:PySem.W.codeIn K acC "keeps_letter" = true) (k12:PySem.W.keepIn K (.ref f12)=true)
   (a13:PySem.W.nsIn K mainGlobals "is_placing" = some (some (.ref f13))) (l13:K.lookup f13=some ⟨aij,ag4,.func (PySem.W.fnOf "is_placing" "is_placing" (bC iV) (bB iV) (aA iV) .none aik ail ain ag5 acD aio),ahI⟩) (c13:PySem.W.codeIn K acD "is_placing" = true) (k13:PySem.W.keepIn K (.ref f13)=true)
   (a14:PySem.W.nsIn K mainGlobals "_law_mixed" = some (some (.ref f14))) (l14:K.lookup f14=some ⟨aip,ag6,.func (PySem.W.fnOf "_law_mixed" "_law_mixed" (bC rY) (bB rY) (aA rY) .none aiq air ais ag7 acE ait),ahJ⟩) (c14:PySem.W.codeIn K acE "_law_mixed" = true) (k14:PySem.W.keepIn K (.ref f14)=true)
   (a15:PySem.W.nsIn K mainGlobals "_law_pack" = some (some (.ref f15))) (l15:K.lookup f15=some ⟨aiu,ag8,.func (PySem.W.fnOf "_law_pack" "_law_pack" (bC xV) (bB xV) (aA xV) .none aiv aiw aix ag9 acF aiy),ahK⟩) (c15:PySem.W.codeIn K acF "_law_pack" = true) (k15:PySem.W.keepIn K (.ref f15)=true)
   (a16:PySem.W.nsIn K mainGlobals "_law_take" = some (some (.ref f16))) (l16:K.lookup f16=some ⟨aiz,aha,.func (PySem.W.fnOf "_law_take" "_law_take" (bC xW) (bB xW) (aA xW) .none aiA aiB aiC ahb acG aiD),ahL⟩) (c16:PySem.W.codeIn K acG "_law_take" = true) (RJ:PySem.W.keepIn K (.ref f16)=true)
   (a17:PySem.W.nsIn K mainGlobals "_law_names" = some (some (.ref f17))) (l17:K.lookup f17=some ⟨aiE,ahc,.func (PySem.W.fnOf "_law_names" "_law_names" (bC mZ) (bB mZ) (aA mZ) .none aiF aiG aiH ahd acH aiI),ahM⟩) (c17:PySem.W.codeIn K acH "_law_names" = true) (k17:PySem.W.keepIn K (.ref f17)=true)
   (a18:PySem.W.nsIn K mainGlobals "_law_house" = some (some (.ref f18))) (l18:K.lookup f18=some ⟨aiJ,ahe,.func (PySem.W.fnOf "_law_house" "_law_house" (bC lU) (bB lU) (aA lU) .none aiK aiL aiM ahf acI aiN),ahN⟩) (c18:PySem.W.codeIn K acI "_law_house" = true) (k18:PySem.W.keepIn K (.ref f18)=true)
   (a19:PySem.W.nsIn K mainGlobals "_law_letters" = some (some (.ref f19))) (l19:K.lookup f19=some ⟨aiO,ahg,.func (PySem.W.fnOf "_law_letters" "_law_letters" (bC iy) (bB iy) (aA iy) .none aiP aiQ aiR ahh acJ aiS),ahO⟩) (c19:PySem.W.codeIn K acJ "_law_letters" = true) (k19:PySem.W.keepIn K (.ref f19)=true)
   (a20:PySem.W.nsIn K mainGlobals "_law_ledger" = some (some (.ref f20))) (l20:K.lookup f20=some ⟨aiT,ahi,.func (PySem.W.fnOf "_law_ledger" "_law_ledger" (bC jO) (bB jO) (aA jO) .none aiU aiV aiW ahj acK aiX),ahP⟩) (c20:PySem.W.codeIn K acK "_law_ledger" = true) (k20:PySem.W.keepIn K (.ref f20)=true)
   (a21:PySem.W.nsIn K mainGlobals "_law_steps" = some (some (.ref f21))) (l21:K.lookup f21=some ⟨aiY,ahk,.func (PySem.W.fnOf "_law_steps" "_law_steps" (bC rZ) (bB rZ) (aA rZ) .none aiZ ai0 ai1 ahl acL ai2),ahQ⟩) (c21:PySem.W.codeIn K acL "_law_steps" = true) (k21:PySem.W.keepIn K (.ref f21)=true)
   (a22:PySem.W.nsIn K mainGlobals "_law_rows" = some (some (.ref f22))) (l22:K.lookup f22=some ⟨ai3,ahm,.func (PySem.W.fnOf "_law_rows" "_law_rows" (bC vI) (bB vI) (aA vI) .none ai4 ai5 ai6 ahn acM ai7),ahR⟩) (c22:PySem.W.codeIn K acM "_law_rows" = true) (k22:PySem.W.keepIn K (.ref f22)=true)
   (a23:PySem.W.nsIn K mainGlobals "_law_sums" = some (some (.ref f23))) (l23:K.lookup f23=some ⟨ai8,aho,.func (PySem.W.fnOf "_law_sums" "_law_sums" (bC xX) (bB xX) (aA xX) .none ai9 aja ajb ahp acN ajc),ahS⟩) (c23:PySem.W.codeIn K acN "_law_sums" = true) (k23:PySem.W.keepIn K (.ref f23)=true)
   (a24:PySem.W.nsIn K mainGlobals "_law_keeps" = some (some (.ref f24))) (Wj:K.lookup f24=some ⟨ajd,ahq,.func (PySem.W.fnOf "_law_keeps" "_law_keeps" (bC su) (bB su) (aA su) .none aje ajf ajg ahr acO ajh),ahT⟩) (c24:PySem.W.codeIn K acO "_law_keeps" = true) (k24:PySem.W.keepIn K (.ref f24)=true)
   (a25:PySem.W.nsIn K mainGlobals "_law_moments" = some (some (.ref f25))) (l25:K.lookup f25=some ⟨aji,ahs,.func (PySem.W.fnOf "_law_moments" "_law_moments" (bC jV) (bB jV) (aA jV) .none ajj ajk ajl aht acP ajm),ahU⟩) (c25:PySem.W.codeIn K acP "_law_moments" = true) (k25:PySem.W.keepIn K (.ref f25)=true)
   (a26:PySem.W.nsIn K mainGlobals "_law_told" = some (some (.ref f26))) (l26:K.lookup f26=some ⟨ajn,ahu,.func (PySem.W.fnOf "_law_told" "_law_told" (bC vJ) (bB vJ) (aA vJ) .none ajo ajp ajq ahv acQ ajr),ahV⟩) (c26:PySem.W.codeIn K acQ "_law_told" = true) (k26:PySem.W.keepIn K (.ref f26)=true)
   (a27:PySem.W.nsIn K mainGlobals "_law_moved" = some (some (.ref f27))) (l27:K.lookup f27=some ⟨ajs,ahw,.func (PySem.W.fnOf "_law_moved" "_law_moved" (bC oK) (bB oK) (aA oK) .none ajt aju ajv ahx acR ajw),ahW⟩) (c27:PySem.W.codeIn K acR "_law_moved" = true) (k27:PySem.W.keepIn K (.ref f27)=true)
   (a28:PySem.W.nsIn K mainGlobals "_law_more_let" = some (some (.ref f28))) (l28:K.lookup f28=some ⟨ajx,ahy,.func (PySem.W.fnOf "_law_more_let" "_law_more_let" (bC lV) (bB lV) (aA lV) .none ajy ajz ajA ahz acS ajB),ahX⟩) (c28:PySem.W.codeIn K acS "_law_more_let" = true) (k28:PySem.W.keepIn K (.ref f28)=true)
   (a29:PySem.W.nsIn K mainGlobals "_law_odd" = some (some (.ref f29))) (l29:K.lookup f29=some ⟨ajC,ahA,.func (PySem.W.fnOf "_law_odd" "_law_odd" (bC KR) (bB KR) (aA KR) .none ajD ajE ajF ahB acT ajG),ahY⟩) (c29:PySem.W.codeIn K acT "_law_odd" = true) (k29:PySem.W.keepIn K (.ref f29)=true)
   (a30:PySem.W.nsIn K mainGlobals "_law_right" = some (some (.ref f30))) (l30:K.lookup f30=some ⟨ajH,ahC,.func (PySem.W.fnOf "_law_right" "_law_right" (bC oM) (bB oM) (aA oM) .none ajI ajJ ajK ahD acU ajL),ahZ⟩) (c30:PySem.W.codeIn K acU "_law_right" = true) (k30:PySem.W.keepIn K (.ref f30)=true)
   (a31:PySem.W.nsIn K mainGlobals "law" = some (some (.ref f31))) (l31:K.lookup f31=some ⟨ajM,ahE,.func (PySem.W.fnOf "law" "law" (bC ur) (bB ur) (aA ur) .none acV acW acX acz ZX acY),ah0⟩) (c31:PySem.W.codeIn K ZX "law" = true) (k31:PySem.W.keepIn K (.ref f31)=true)
   (y1:PySem.W.nsIn K mainGlobals "LONGEST_NAME" = some (some (.int 8 t8))) (z1:PySem.W.nsIn K mainGlobals "isinstance" = some none) (z2:PySem.W.nsIn K mainGlobals "int" = some none) (z3:PySem.W.nsIn K mainGlobals "bool" = some none) (z4:PySem.W.nsIn K mainGlobals "str" = some none) (z5:PySem.W.nsIn K mainGlobals "tuple" = some none) (z6:PySem.W.nsIn K mainGlobals "len" = some none) (z7:PySem.W.nsIn K mainGlobals "all" = some none) (z8:PySem.W.nsIn K mainGlobals "zip" = some none) (z9:PySem.W.nsIn K mainGlobals "set" = some none) (z10:PySem.W.nsIn K mainGlobals "sorted" = some none) (z11:PySem.W.nsIn K mainGlobals "divmod" = some none) (z12:PySem.W.nsIn K mainGlobals "range" = some none) (z13:PySem.W.nsIn K mainGlobals "max" = some none) (z14:PySem.W.nsIn K mainGlobals "min" = some none) (z15:PySem.W.nsIn K mainGlobals "abs" = some none) (z16:PySem.W.nsIn K mainGlobals "list" = some none) (z17:PySem.W.nsIn K mainGlobals "dict" = some none) (z18:PySem.W.nsIn K mainGlobals "any" = some none) :
   ∃ fd:FuncData,(∀ (s:Shared) (v:Value),BindsTo s fd ⟨[v],[]⟩ [("_law_script",v)])/\∀ base:Heap,K.In base->base.Ns mainGlobals mg->aX l.prog w K mg base dM 7 fa fd ["_law_script"] (Jr K):=by
 have e:=hfa.symm.trans (PySem.W.mg_of X G a31)
 cases e
 have T:Txt mg t8:=⟨PySem.W.mg_none_of X G z1,PySem.W.mg_none_of X G z2,PySem.W.mg_none_of X G z3,PySem.W.mg_none_of X G z4,PySem.W.mg_none_of X G z5,PySem.W.mg_none_of X G z6,PySem.W.mg_none_of X G z7,PySem.W.mg_none_of X G z8,PySem.W.mg_none_of X G z9,PySem.W.mg_none_of X G z10,PySem.W.mg_none_of X G z11,PySem.W.mg_none_of X G z12,PySem.W.mg_none_of X G z13,PySem.W.mg_none_of X G z14,PySem.W.mg_none_of X G z15,PySem.W.mg_none_of X G z16,PySem.W.mg_none_of X G z17,PySem.W.mg_none_of X G z18,PySem.W.mg_of X G y1⟩
 have F1:=cG (st:=rT) l1 c1 k1
 have b1:=F1.binds (ps:=["thing"]) fun _ _ _ _ _ _ us hl=>match us,hl with | [_],_=>rfl
 have F2:=cG (st:=vH) l2 c2 k2
 have b2:=F2.binds (ps:=["thing"]) fun _ _ _ _ _ _ us hl=>match us,hl with | [_],_=>rfl
 have F3:=cG (st:=rU) l3 c3 k3
 have b3:=F3.binds (ps:=["thing","many"]) fun _ _ _ _ _ _ us hl=>match us,hl with | [_,_],_=>rfl
 have F4:=cG (st:=rW) l4 c4 k4
 have b4:=F4.binds (ps:=["thing"]) fun _ _ _ _ _ _ us hl=>match us,hl with | [_],_=>rfl
 have F5:=cG (st:=mX) l5 c5 k5
 have b5:=F5.binds (ps:=["house"]) fun _ _ _ _ _ _ us hl=>match us,hl with | [_],_=>rfl
 have F6:=cG (st:=qt) l6 c6 k6
 have b6:=F6.binds (ps:=["house"]) fun _ _ _ _ _ _ us hl=>match us,hl with | [_],_=>rfl
 have F7:=cG (st:=jk) l7 c7 k7
 have b7:=F7.binds (ps:=["houses"]) fun _ _ _ _ _ _ us hl=>match us,hl with | [_],_=>rfl
 have F8:=cG (st:=pJ) l8 c8 k8
 have b8:=F8.binds (ps:=["ledger"]) fun _ _ _ _ _ _ us hl=>match us,hl with | [_],_=>rfl
 have F9:=cG (st:=tQ) l9 c9 k9
 have b9:=F9.binds (ps:=["ledger","thing"]) fun _ _ _ _ _ _ us hl=>match us,hl with | [_,_],_=>rfl
 have F10:=cG (st:=mY) l10 c10 k10
 have b10:=F10.binds (ps:=["run","drift","moments"]) fun _ _ _ _ _ _ us hl=>match us,hl with | [_,_,_],_=>rfl
 have F11:=cG (st:=jL) l11 c11 k11
 have b11:=F11.binds (ps:=["house","moments"]) fun _ _ _ _ _ _ us hl=>match us,hl with | [_,_],_=>rfl
 have F12:=cG (st:=lQ) l12 c12 k12
 have b12:=F12.binds (ps:=["letter","moments"]) fun _ _ _ _ _ _ us hl=>match us,hl with | [_,_],_=>rfl
 have F13:=cG (st:=iV) l13 c13 k13
 have b13:=F13.binds (ps:=["ledger","thing"]) fun _ _ _ _ _ _ us hl=>match us,hl with | [_,_],_=>rfl
 have F14:=cG (st:=rY) l14 c14 k14
 have b14:=F14.binds (ps:=["_law_cell"]) fun _ _ _ _ _ _ us hl=>match us,hl with | [_],_=>rfl
 have F15:=cG (st:=xV) l15 c15 k15
 have b15:=F15.binds (ps:=["_law_script","_law_k"]) fun _ _ _ _ _ _ us hl=>match us,hl with | [_,_],_=>rfl
 have F16:=cG (st:=xW) l16 c16 RJ
 have Z0:=F16.binds (ps:=["_law_pack_here","_law_size"]) fun _ _ _ _ _ _ us hl=>match us,hl with | [_,_],_=>rfl
 have F17:=cG (st:=mZ) l17 c17 k17
 have b17:=F17.binds (ps:=["_law_pack_here","_law_amount"]) fun _ _ _ _ _ _ us hl=>match us,hl with | [_,_],_=>rfl
 have F18:=cG (st:=lU) l18 c18 k18
 have b18:=F18.binds (ps:=["_law_pack_here","_law_name","_law_names_here","_law_room"]) fun _ _ _ _ _ _ us hl=>match us,hl with | [_,_,_,_],_=>rfl
 have F19:=cG (st:=iy) l19 c19 k19
 have b19:=F19.binds (ps:=["_law_pack_here","_law_houses","_law_hidden"]) fun _ _ _ _ _ _ us hl=>match us,hl with | [_,_,_],_=>rfl
 have F20:=cG (st:=jO) l20 c20 k20
 have b20:=F20.binds (ps:=["_law_script","_law_k"]) fun _ _ _ _ _ _ us hl=>match us,hl with | [_,_],_=>rfl
 have F21:=cG (st:=rZ) l21 c21 k21
 have b21:=F21.binds (ps:=["_law_ledger_here"]) fun _ _ _ _ _ _ us hl=>match us,hl with | [_],_=>rfl
 have F22:=cG (st:=vI) l22 c22 k22
 have b22:=F22.binds (ps:=["_law_ledger_here"]) fun _ _ _ _ _ _ us hl=>match us,hl with | [_],_=>rfl
 have F23:=cG (st:=xX) l23 c23 k23
 have b23:=F23.binds (ps:=["_law_steps_here","_law_points"]) fun _ _ _ _ _ _ us hl=>match us,hl with | [_,_],_=>rfl
 have F24:=cG (st:=su) Wj c24 k24
 have b24:=F24.binds (ps:=["_law_ledger_here","_law_instants"]) fun _ _ _ _ _ _ us hl=>match us,hl with | [_,_],_=>rfl
 have F25:=cG (st:=jV) l25 c25 k25
 have b25:=F25.binds (ps:=["_law_ledger_here","_law_side"]) fun _ _ _ _ _ _ us hl=>match us,hl with | [_,_],_=>rfl
 have F26:=cG (st:=vJ) l26 c26 k26
 have b26:=F26.binds (ps:=["_law_instants"]) fun _ _ _ _ _ _ us hl=>match us,hl with | [_],_=>rfl
 have F27:=cG (st:=oK) l27 c27 k27
 have b27:=F27.binds (ps:=["_law_ledger_here","_law_by"]) fun _ _ _ _ _ _ us hl=>match us,hl with | [_,_],_=>rfl
 have F28:=cG (st:=lV) l28 c28 k28
 have b28:=F28.binds (ps:=["_law_pack_here","_law_ledger_here"]) fun _ _ _ _ _ _ us hl=>match us,hl with | [_,_],_=>rfl
 have F29:=cG (st:=KR) l29 c29 k29
 have b29:=F29.binds (ps:=["_law_placing"]) fun _ _ _ _ _ _ us hl=>match us,hl with | [_],_=>rfl
 have F30:=cG (st:=oM) l30 c30 k30
 have b30:=F30.binds (ps:=["_law_pack_here","_law_ledger_here","_law_instants"]) fun _ _ _ _ _ _ us hl=>match us,hl with | [_,_,_],_=>rfl
 have F31:=cG (st:=ur) l31 c31 k31
 have b31:=F31.binds (ps:=["_law_script"]) fun _ _ _ _ _ _ us hl=>match us,hl with | [_],_=>rfl
 refine ⟨PySem.W.fnOf "law" "law" (bC ur) (bB ur) (aA ur) .none acV acW acX acz ZX acY,fun s v=>.of_eq rfl,fun base _ _=>?_⟩
 have G1:aX l.prog w K mg base dM 1 f1 _ ["thing"] (zp K):=PX F1 T
 have G2:aX l.prog w K mg base dM 1 f2 _ ["thing"] (Fv K):=TV F2 T
 have G3:aX l.prog w K mg base dM 1 f3 _ ["thing","many"] zq:=Qt F3 T
 have G4:aX l.prog w K mg base dM 2 f4 _ ["thing"] (spD eN):=Qv F4 G3 (PySem.W.mg_of X G a3) k3 b3 G2 (PySem.W.mg_of X G a2) k2 b2 G1 (PySem.W.mg_of X G a1) k1 b1
 have G5:aX l.prog w K mg base dM 1 f5 _ ["house"] oF:=La F5
 have G6:aX l.prog w K mg base dM 2 f6 _ ["house"] zQ:=Qw F6 T G5 (PySem.W.mg_of X G a5) k5 b5
 have G7:aX l.prog w K mg base dM 2 f7 _ ["houses"] qm:=Dl F7 G5 (PySem.W.mg_of X G a5) k5 b5
 have G8:aX l.prog w K mg base dM 3 f8 _ ["ledger"] vV:=Ld F8 T G7 (PySem.W.mg_of X G a7) k7 b7
 have G9:aX l.prog w K mg base dM 4 f9 _ ["ledger","thing"] Gn:=Ur F9 T (G4.mono (by decide)) (PySem.W.mg_of X G a4) k4 b4 G8 (PySem.W.mg_of X G a8) k8 b8
 have G10:aX l.prog w K mg base dM 1 f10 _ ["run","drift","moments"] vW:=Lf F10 T
 have G11:aX l.prog w K mg base dM 3 f11 _ ["house","moments"] vX:=Lg F11 T (G5.mono (by decide)) (PySem.W.mg_of X G a5) k5 b5 G6 (PySem.W.mg_of X G a6) k6 b6 (G10.mono (by decide)) (PySem.W.mg_of X G a10) k10 b10
 have G12:aX l.prog w K mg base dM 1 f12 _ ["letter","moments"] sG:=Gm F12
 have G13:aX l.prog w K mg base dM 5 f13 _ ["ledger","thing"] pK:=Gp F13 T G9 (PySem.W.mg_of X G a9) k9 b9 (G11.mono (by decide)) (PySem.W.mg_of X G a11) k11 b11 (G12.mono (by decide)) (PySem.W.mg_of X G a12) k12 b12
 have G14:aX l.prog w K mg base dM 1 f14 _ ["_law_cell"] zu:=Qa F14
 have G15:aX l.prog w K mg base dM 2 f15 _ ["_law_script","_law_k"] (zx K):=TY F15 T G14 (PySem.W.mg_of X G a14) k14 b14
 have Z1:aX l.prog w K mg base dM 1 f16 _ ["_law_pack_here","_law_size"] mR:=T3 F16 T
 have G17:aX l.prog w K mg base dM 2 f17 _ ["_law_pack_here","_law_amount"] zB:=Qc F17 T Z1 (PySem.W.mg_of X G a16) RJ Z0
 have G18:aX l.prog w K mg base dM 2 f18 _ ["_law_pack_here","_law_name","_law_names_here","_law_room"] sy:=Gd F18 T Z1 (PySem.W.mg_of X G a16) RJ Z0
 have G19:aX l.prog w K mg base dM 2 f19 _ ["_law_pack_here","_law_houses","_law_hidden"] m5:=zL F19 T Z1 (PySem.W.mg_of X G a16) RJ Z0
 have G20:aX l.prog w K mg base dM 3 f20 _ ["_law_script","_law_k"] (qu K):=CW F20 T G15 (PySem.W.mg_of X G a15) k15 b15 G17 (PySem.W.mg_of X G a17) k17 b17 (Z1.mono (by decide)) (PySem.W.mg_of X G a16) RJ Z0 G18 (PySem.W.mg_of X G a18) k18 b18 G19 (PySem.W.mg_of X G a19) k19 b19
 have G21:aX l.prog w K mg base dM 1 f21 _ ["_law_ledger_here"] Ac:=QW F21 T
 have G22:aX l.prog w K mg base dM 1 f22 _ ["_law_ledger_here"] FP:=Ub F22 T
 have G23:aX l.prog w K mg base dM 1 f23 _ ["_law_steps_here","_law_points"] Gw:=U9 F23 T
 have G24:aX l.prog w K mg base dM 1 f24 _ ["_law_ledger_here","_law_instants"] zX:=QT F24 T
 have G25:aX l.prog w K mg base dM 2 f25 _ ["_law_ledger_here","_law_side"] sO:=Gz F25 T G22 (PySem.W.mg_of X G a22) k22 b22 G21 (PySem.W.mg_of X G a21) k21 b21 G23 (PySem.W.mg_of X G a23) k23 b23
 have G26:aX l.prog w K mg base dM 1 f26 _ ["_law_instants"] zW:=Ux F26 T
 have G27:aX l.prog w K mg base dM 1 f27 _ ["_law_ledger_here","_law_by"] Af:=Q9 F27 T
 have G28:aX l.prog w K mg base dM 2 f28 _ ["_law_pack_here","_law_ledger_here"] sS:=GJ F28 T Z1 (PySem.W.mg_of X G a16) RJ Z0
 have G29:aX l.prog w K mg base dM 1 f29 _ ["_law_placing"] Ri:=ZF F29 T
 have G30:aX l.prog w K mg base dM 6 f30 _ ["_law_pack_here","_law_ledger_here","_law_instants"] Aj:=Rt F30 T (G26.mono (by decide)) (PySem.W.mg_of X G a26) k26 b26 G13 (PySem.W.mg_of X G a13) k13 b13 (Z1.mono (by decide)) (PySem.W.mg_of X G a16) RJ Z0 (G27.mono (by decide)) (PySem.W.mg_of X G a27) k27 b27 (G28.mono (by decide)) (PySem.W.mg_of X G a28) k28 b28 (G24.mono (by decide)) (PySem.W.mg_of X G a24) k24 b24
 exact ZR F31 T (G20.mono (by decide)) (PySem.W.mg_of X G a20) k20 b20 (G15.mono (by decide)) (PySem.W.mg_of X G a15) k15 b15 (Z1.mono (by decide)) (PySem.W.mg_of X G a16) RJ Z0 (G25.mono (by decide)) (PySem.W.mg_of X G a25) k25 b25 G30 (PySem.W.mg_of X G a30) k30 b30 (G13.mono (by decide)) (PySem.W.mg_of X G a13) k13 b13 (G26.mono (by decide)) (PySem.W.mg_of X G a26) k26 b26 (G29.mono (by decide)) (PySem.W.mg_of X G a29) k29 b29
theorem walk {l:PySem.W.OpenLaw} {q:Program} {loose:List Str} {XP:(Str->Option Value)->Heap->Prop} {YP:World->Heap->Prop} {d:DefRec} {K:Params->PySem.W.Frag} (hn:l.most=some 63) (hdf:d.params.defaults=[])
   (hY:∀ (w:World) (h:Heap),YP w h->(K w.params).In h)
   (F:∀ (w:World) (mg:Str->Option Value) (fa:Addr) (h:Heap),(K w.params).In h->h.Ns mainGlobals mg->mg d.name=some (.ref fa) ->
     ∃ fd:FuncData,(∀ (s:Shared) (u:Value),BindsTo s fd ⟨[u],[]⟩ [("_law_script",u)])/\∀ base:Heap,(K w.params).In base->base.Ns mainGlobals mg->aX l.prog w (K w.params) mg base dM 7 fa fd ["_law_script"] (Jr (K w.params))) :
   PySem.W.WalkO q loose XP YP l.row.toRowW d [] (fun f vs=>PySem.call f vs) :=
 Mt (n:=63) (k:=7) (x:="_law_script") (CX:=fun _=>dM) (sp:=fun w=>Jr (K w.params)) hn (by decide) hdf ⟨rfl,by decide,by decide⟩ hY F (fun _ _ a ns hl hb _ hS=>⟨a,ns,rfl,hS,hl,hb,fun _=>rfl⟩) fun _ _ _ _ _ z=>z
end mW
def PySem.W.Fast.tw5183287268425739002 : Unit := ()
def PySem.W.Fast.tw13588851847613053151 : Unit := ()
def PySem.W.Fast.tw1535631086728119134 : Unit := ()
def PySem.W.Fast.tw16442691187571424149 : Unit := ()
def PySem.W.Fast.tw7458298300173825903 : Unit := ()
def PySem.W.Fast.tw3190130055176904867 : Unit := ()
def PySem.W.Fast.tw7033188753468364205 : Unit := ()
def PySem.W.Fast.tw4007263991876872576 : Unit := ()
open PySem PySem.W PyProof.Rows
set_option maxRecDepth 100000 in
set_option maxHeartbeats 0 in
theorem PySem.Challenge.cw_skewbooks_k05_whole_placings_of_ledgers_holds : PySem.Challenge.rw_skewbooks_k05_whole_placings_of_ledgers.Holds := by
 w_on; o_law; k_head; (case hw=>w_witness2)
 k_fill
 refine mW.walk (l:=PySem.Challenge.rw_skewbooks_k05_whole_placings_of_ledgers) rfl rfl (fun w h Y=>PySem.W.kIn_of Y) ?F
 case F =>
   intro w mg fa h KX G hmg
   refine' mW.all_mk KX G hmg ?a1 ?l1 ?c1 ?k1 ?a2 ?l2 ?c2 ?k2 ?a3 ?l3 ?c3 ?k3 ?a4 ?l4 ?c4 ?k4 ?a5 ?l5 ?c5 ?k5 ?a6 ?l6 ?c6 ?k6 ?a7 ?l7 ?c7 ?k7 ?a8 ?l8 ?c8 ?k8 ?a9 ?l9 ?c9 ?k9 ?a10 ?l10 ?c10 ?k10 ?a11 ?l11 ?c11 ?k11 ?a12 ?l12 ?c12 ?k12 ?a13 ?l13 ?c13 ?k13 ?a14 ?l14 ?c14 ?k14 ?a15 ?l15 ?c15 ?k15 ?a16 ?l16 ?c16 ?RJ ?a17 ?l17 ?c17 ?k17 ?a18 ?l18 ?c18 ?k18 ?a19 ?l19 ?c19 ?k19 ?a20 ?l20 ?c20 ?k20 ?a21 ?l21 ?c21 ?k21 ?a22 ?l22 ?c22 ?k22 ?a23 ?l23 ?c23 ?k23 ?a24 ?Wj ?c24 ?k24 ?a25 ?l25 ?c25 ?k25 ?a26 ?l26 ?c26 ?k26 ?a27 ?l27 ?c27 ?k27 ?a28 ?l28 ?c28 ?k28 ?a29 ?l29 ?c29 ?k29 ?a30 ?l30 ?c30 ?k30 ?a31 ?l31 ?c31 ?k31 ?y1 ?z1 ?z2 ?z3 ?z4 ?z5 ?z6 ?z7 ?z8 ?z9 ?z10 ?z11 ?z12 ?z13 ?z14 ?z15 ?z16 ?z17 ?z18
   (case a1=>k_is)
   (case l1=>k_is)
   (case c1=>k_is)
   (case k1=>k_is)
   (case a2=>k_is)
   (case l2=>k_is)
   (case c2=>k_is)
   (case k2=>k_is)
   (case a3=>k_is)
   (case l3=>k_is)
   (case c3=>k_is)
   (case k3=>k_is)
   (case a4=>k_is)
   (case l4=>k_is)
   (case c4=>k_is)
   (case k4=>k_is)
   (case a5=>k_is)
   (case l5=>k_is)
   (case c5=>k_is)
   (case k5=>k_is)
   (case a6=>k_is)
   (case l6=>k_is)
   (case c6=>k_is)
   (case k6=>k_is)
   (case a7=>k_is)
   (case l7=>k_is)
   (case c7=>k_is)
   (case k7=>k_is)
   (case a8=>k_is)
   (case l8=>k_is)
   (case c8=>k_is)
   (case k8=>k_is)
   (case a9=>k_is)
   (case l9=>k_is)
   (case c9=>k_is)
   (case k9=>k_is)
   (case a10=>k_is)
   (case l10=>k_is)
   (case c10=>k_is)
   (case k10=>k_is)
   (case a11=>k_is)
   (case l11=>k_is)
   (case c11=>k_is)
   (case k11=>k_is)
   (case a12=>k_is)
   (case l12=>k_is)
   (case c12=>k_is)
   (case k12=>k_is)
   (case a13=>k_is)
   (case l13=>k_is)
   (case c13=>k_is)
   (case k13=>k_is)
   (case a14=>k_is)
   (case l14=>k_is)
   (case c14=>k_is)
   (case k14=>k_is)
   (case a15=>k_is)
   (case l15=>k_is)
   (case c15=>k_is)
   (case k15=>k_is)
   (case a16=>k_is)
   (case l16=>k_is)
   (case c16=>k_is)
   (case RJ=>k_is)
   (case a17=>k_is)
   (case l17=>k_is)
   (case c17=>k_is)
   (case k17=>k_is)
   (case a18=>k_is)
   (case l18=>k_is)
   (case c18=>k_is)
   (case k18=>k_is)
   (case a19=>k_is)
   (case l19=>k_is)
   (case c19=>k_is)
   (case k19=>k_is)
   (case a20=>k_is)
   (case l20=>k_is)
   (case c20=>k_is)
   (case k20=>k_is)
   (case a21=>k_is)
   (case l21=>k_is)
   (case c21=>k_is)
   (case k21=>k_is)
   (case a22=>k_is)
   (case l22=>k_is)
   (case c22=>k_is)
   (case k22=>k_is)
   (case a23=>k_is)
   (case l23=>k_is)
   (case c23=>k_is)
   (case k23=>k_is)
   (case a24=>k_is)
   (case Wj=>k_is)
   (case c24=>k_is)
   (case k24=>k_is)
   (case a25=>k_is)
   (case l25=>k_is)
   (case c25=>k_is)
   (case k25=>k_is)
   (case a26=>k_is)
   (case l26=>k_is)
   (case c26=>k_is)
   (case k26=>k_is)
   (case a27=>k_is)
   (case l27=>k_is)
   (case c27=>k_is)
   (case k27=>k_is)
   (case a28=>k_is)
   (case l28=>k_is)
   (case c28=>k_is)
   (case k28=>k_is)
   (case a29=>k_is)
   (case l29=>k_is)
   (case c29=>k_is)
   (case k29=>k_is)
   (case a30=>k_is)
   (case l30=>k_is)
   (case c30=>k_is)
   (case k30=>k_is)
   (case a31=>k_is)
   (case l31=>k_is)
   (case c31=>k_is)
   (case k31=>k_is)
   (case y1=>k_is)
   (case z1=>k_is)
   (case z2=>k_is)
   (case z3=>k_is)
   (case z4=>k_is)
   (case z5=>k_is)
   (case z6=>k_is)
   (case z7=>k_is)
   (case z8=>k_is)
   (case z9=>k_is)
   (case z10=>k_is)
   (case z11=>k_is)
   (case z12=>k_is)
   (case z13=>k_is)
   (case z14=>k_is)
   (case z15=>k_is)
   (case z16=>k_is)
   (case z17=>k_is)
   (case z18=>k_is)
