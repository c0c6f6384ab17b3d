import PyProof.Rows.All
import Wide.All
import OpenK.AllK
import Wide.FinOn
import Lean
import PyProof.EqAt
import PyProof.EqKinds
import PyProof.TupleCall
import PySem.Challenge.RW_skewbooks_k37_rows_and_letters_kept
import PyProof.AutoListH
import PyProof.P3In
set_option Elab.async false
set_option linter.all false
set_option maxRecDepth 100000
namespace L2
open PySem PySem.Spec PyProof.Rows
abbrev Key:=Sum (Option Int) Str
def jB:Key->Value->Bool
 | .inl none,v=>match v with | .none=>true | _=>false
 | .inl (some k),v=>Value.isInt k v
 | .inr x,v=>Value.isStrOf x v
def aeO (w:World):Key->Int
 | .inl none=>0xFCA86420
 | .inl (some k)=>hashInt k
 | .inr x=>hashStr w x
theorem bO:∀ {k:Key} {v:Value},jB k v=true->(∃ i t,k=Sum.inl (some i)/\v=Value.int i t)∨(∃ x t,k=Sum.inr x/\v=Value.str x t)∨(k=Sum.inl none/\v=Value.none)
 | .inl (some i),v,h=>by
   obtain ⟨t,e⟩:=Value.isInt_shape (k:=i) (v:=v) h
   exact .inl ⟨i,t,rfl,e⟩
 | .inl none,v,h=>by
   cases v with
   | none=>exact .inr (.inr ⟨rfl,rfl⟩)
   | _=>cases h
 | .inr x,v,h=>by
   obtain ⟨t,e⟩:=Value.isStrOf_shape (x:=x) (v:=v) h
   exact .inr (.inl ⟨x,t,rfl,e⟩)
theorem qP (i:Int) (t:Tok):jB (.inl (some i)) (.int i t)=true:=by simp [jB,Value.isInt]
theorem qQ (x:Str) (t:Tok):jB (.inr x) (.str x t)=true:=by simp [jB,Value.isStrOf]
theorem uT:jB (.inl none) .none=true:=rfl
theorem WW (a b:Int):decide ((Sum.inl (some a):Key)=Sum.inl (some b))=(a == b):=by
 by_cases e:a=b
 . subst e; simp
 . have h:¬ (Sum.inl (some a):Key)=Sum.inl (some b):=fun q=>e (Option.some.inj (Sum.inl.inj q))
   rw [decide_eq_false h]
   exact (beq_eq_false_iff_ne.mpr e).symm
theorem WX (a b:Str):decide ((Sum.inr a:Key)=Sum.inr b)=decide (a=b):=by
 by_cases e:a=b
 . subst e; simp
 . have h:¬ (Sum.inr a:Key)=Sum.inr b:=fun q=>e (Sum.inr.inj q)
   rw [decide_eq_false h,decide_eq_false e]
theorem M5 (a:Option Int) (b:Str):decide ((Sum.inl a:Key)=Sum.inr b)=false:=decide_eq_false (fun q=>nomatch q)
theorem M6 (a:Str) (b:Option Int):decide ((Sum.inr a:Key)=Sum.inl b)=false:=decide_eq_false (fun q=>nomatch q)
theorem WY (a:Int):decide ((Sum.inl (some a):Key)=Sum.inl none)=false:=decide_eq_false (fun q=>nomatch (Sum.inl.inj q))
theorem W0 (a:Int):decide ((Sum.inl none:Key)=Sum.inl (some a))=false:=decide_eq_false (fun q=>nomatch (Sum.inl.inj q))
theorem W6:decide ((Sum.inl none:Key)=Sum.inl none)=true:=decide_eq_true rfl
theorem JF {prog:Program} {w:World} {A:Around} {E:Value->Shared->Prop} {s:Shared} {Q:Int->Shared->Prop} (h:Q 0xFCA86420 { s with toks:=s.toks+1 }):wpAny (model prog w) A (pyHash .none) Q E s:=by
 have hT:s.TypeIs .none "NoneType":=rfl
 unfold pyHash
 have hv:[Value.none].any Value.onHeap=false:=rfl
 refine wpAny_bind ?_
 rw [cRoomFor,if_neg (by rw [hv]; exact Bool.false_ne_true)]; refine wpAny_pure ?_
 refine wpAny_bind (wpAny_specialOf hT PySem.F.slot_NoneType_hash.lookup ?_)
 show wpAny _ _ (if (some (Value.builtin "NoneType.__hash__") == some Value.none)=true then _ else _) Q E s
 rw [if_neg (by decide)]
 refine wpAny_bind (wpAny_specialOf hT PySem.F.slot_NoneType_hash.lookup ?_)
 show wpAny _ _ (callSpecialIfBoundUnlessNone? .none "__hash__" _ >>= _) Q E s
 refine wpAny_bind (wpAny_callSpecialIfBoundUnlessNone?_slot hT PySem.F.slot_NoneType_hash
   (wpAny_call_entry PySem.F.slot_NoneType_hash hT PySem.F.entry_NoneType_hash
     (show wpAny _ _ (do ret (<- mkInt 0xFCA86420)) _ _ s from wpAny_ret_mkInt ?_) (PySem.F.args_NoneType_hash_1 _)))
 show wpAny _ _ (if (decide (-(2:Int) ^ 63<=0xFCA86420) && decide ((0xFCA86420:Int)<2 ^ 63))=true then _ else _) Q E _
 rw [if_pos (by decide)]
 exact wpAny_pure h
theorem zO {prog:Program} {w:World} {A:Around} {E:Value->Shared->Prop} {s:Shared} {Q:Bool->Shared->Prop} (h:Q true s):wpAny (model prog w) A (eqBool .none .none) Q E s:=by
 have hb:(Value.none == Value.none)=true:=by decide
 unfold eqBool
 rw [if_pos hb]
 exact wpAny_bind (wpAny_rule (wpAny_pure h))
def aK (prog:Program) (w:World):PySem.KeyKind prog w Key where
 is:=jB
 hash:=aeO w
 inj:=fun v a b ha hb=>by
   rcases bO ha with ⟨i,t,rfl,rfl⟩ | ⟨x,t,rfl,rfl⟩ | ⟨rfl,rfl⟩
   . rcases bO hb with ⟨j,u,rfl,e⟩ | ⟨y,u,rfl,e⟩ | ⟨rfl,e⟩
     . injection e with e1 _; rw [e1]
     . exact nomatch e
     . exact nomatch e
   . rcases bO hb with ⟨j,u,rfl,e⟩ | ⟨y,u,rfl,e⟩ | ⟨rfl,e⟩
     . exact nomatch e
     . injection e with e1 _; rw [e1]
     . exact nomatch e
   . rcases bO hb with ⟨j,u,rfl,e⟩ | ⟨y,u,rfl,e⟩ | ⟨rfl,e⟩
     . exact nomatch e
     . exact nomatch e
     . rfl
 byValue:=fun k v h=>by
   rcases bO h with ⟨i,t,rfl,rfl⟩ | ⟨x,t,rfl,rfl⟩ | ⟨rfl,rfl⟩ <;> rfl
 pyHash:=fun hv h=>by
   rcases bO hv with ⟨i,t,rfl,rfl⟩ | ⟨x,t,rfl,rfl⟩ | ⟨rfl,rfl⟩
   . exact wpAny_pyHash_int h
   . exact wpAny_pyHash_str h
   . exact JF h
 eqBool:=fun hu hv h=>by
   rcases bO hu with ⟨i,t,rfl,rfl⟩ | ⟨x,t,rfl,rfl⟩ | ⟨rfl,rfl⟩
   . rcases bO hv with ⟨j,u,rfl,rfl⟩ | ⟨y,u,rfl,rfl⟩ | ⟨rfl,rfl⟩
     . rw [WW] at h; exact wpAny_eqBool_int h
     . rw [M5] at h; exact SeqAt.EqAt.int_str i t y u _ _ _ _ h
     . rw [WY] at h; exact SeqAt.EqAt.int_none i t _ _ _ _ h
   . rcases bO hv with ⟨j,u,rfl,rfl⟩ | ⟨y,u,rfl,rfl⟩ | ⟨rfl,rfl⟩
     . rw [M6] at h; exact SeqAt.EqAt.str_int x t j u _ _ _ _ h
     . rw [WX] at h; exact wpAny_eqBool_str h
     . rw [M6] at h; exact SeqAt.EqAt.str_none x t _ _ _ _ h
   . rcases bO hv with ⟨j,u,rfl,rfl⟩ | ⟨y,u,rfl,rfl⟩ | ⟨rfl,rfl⟩
     . rw [W0] at h; exact SeqAt.EqAt.none_int j u _ _ _ _ h
     . rw [M5] at h; exact SeqAt.EqAt.none_str y u _ _ _ _ h
     . rw [W6] at h; exact zO h
 «strs»:=fun k x t v h=>by
   rcases bO h with ⟨i,u,rfl,e⟩ | ⟨y,u,rfl,e⟩ | ⟨rfl,e⟩
   . exact nomatch e
   . injection e with e1 _
     subst e1
     cases v <;> rfl
   . exact nomatch e
theorem BX (prog:Program) (w:World) (i:Int) (t:Tok):(aK prog w).is (.inl (some i)) (.int i t)=true:=qP i t
theorem iM (prog:Program) (w:World) (x:Str) (t:Tok):(aK prog w).is (.inr x) (.str x t)=true:=qQ x t
theorem zP (prog:Program) (w:World):(aK prog w).is (.inl none) .none=true:=uT
end L2
namespace L2
open PySem PySem.Spec PyProof.Rows
inductive V where
 | non | bl (b:Bool) | int (i:Int) | str (x:Str) | JG (b:Array UInt8) | flt (b:UInt64) | ref (a:Addr) | ty (n:String)
 deriving DecidableEq
def RelV:V->Value->Prop
 | .non,u=>u=Value.none
 | .bl b,u=>u=Value.bool b
 | .int i,u=>∃ t,u=Value.int i t
 | .str x,u=>∃ t,u=Value.str x t
 | .JG b,u=>∃ t,u=Value.bytes b t
 | .flt b,u=>∃ t,u=Value.float b t
 | .ref a,u=>u=Value.ref a
 | .ty n,u=>u=Value.type n
abbrev Vals:List V->List Value->Prop:=Paired RelV
theorem Vals.length {xs:List V} {us:List Value} (r:Vals xs us):xs.length=us.length:=Paired.length r
theorem Vals.get:∀ {xs:List V} {us:List Value} {i:Nat} {x:V},Vals xs us->xs[i]?=some x->∃ u,us[i]?=some u/\RelV x u
 | _,_,_,_,.nil,e=>by simp at e
 | _,_,0,_,.cons r _,e=>by simp at e; subst e; exact ⟨_,rfl,r⟩
 | _,_,i+1,x,.cons _ t,e=>by
   obtain ⟨u,h1,h2⟩:=Vals.get (i:=i) (x:=x) t (by simpa using e)
   exact ⟨u,by simpa using h1,h2⟩
theorem Vals.set {x:V} {u:Value} (r:RelV x u):∀ {xs:List V} {us:List Value} (i:Nat),Vals xs us->Vals (xs.set i x) (us.set i u)
 | _,_,_,.nil=>.nil
 | _,_,0,.cons _ t=>.cons r t
 | _,_,i+1,.cons q t=>.cons q (Vals.set r i t)
theorem Vals.append:∀ {xs ys:List V} {us ws:List Value},Vals xs us->Vals ys ws->Vals (xs++ys) (us++ws)
 | _,_,_,_,.nil,s=>s
 | _,_,_,_,.cons r t,s=>.cons r (Vals.append t s)
theorem Vals.take:∀ {xs:List V} {us:List Value} (n:Nat),Vals xs us->Vals (xs.take n) (us.take n)
 | _,_,0,_=>.nil
 | _,_,_+1,.nil=>.nil
 | _,_,n+1,.cons r t=>.cons r (Vals.take n t)
theorem Vals.drop:∀ {xs:List V} {us:List Value} (n:Nat),Vals xs us->Vals (xs.drop n) (us.drop n)
 | _,_,0,r=>r
 | _,_,_+1,.nil=>.nil
 | _,_,n+1,.cons _ t=>Vals.drop n t
def mG:Option V->Option Value->Prop
 | some v,some u=>RelV v u
 | none,none=>True
 | _,_=>False
def KV {κ:Type}:List (κ × V)->List (κ × Value)->Prop:=Paired fun (p:κ × V) (q:κ × Value)=>p.1=q.1/\RelV p.2 q.2
def kV:Key->V
 | .inl none=>.non
 | .inl (some i)=>.int i
 | .inr x=>.str x
inductive HO where
 /-- a list -/
 | lst (xs:List V)
 /-- a tuple (never changes) -/
 | tup (xs:List V)
 /-- a dict whose keys are ints and texts; one whose keys are tuples of ints and texts (the empty one is both) -/
 | dK (kvs:List (Key × V)) | dT (kvs:List (List Key × V))
 /-- a set of ints: its members,its size -/
 | set (S:Int->Bool) (n:Nat)
 /-- an instance of the class at C,its dict at dx,its attributes -/
 | ins (C dx:Addr) (fs:List (Str × V))
 /-- the dict of the instance at x -/
 | own (x:Addr)
 /-- the dict of an exception -/
 | xd (fs:List (Str × V))
 /-- a bound method,f of x -/
 | met (f x:Addr)
 /-- a range object lo,lo+1,.. below hi -/
 | rng (lo hi:Int)
 /-- a thing that is known to the object (the script; a dict while a loop walks it): read,never written while it is so -/
 | iQ (o:Obj) (u:HO)
 /-- a code object's table -/
 | W7 (ps:Array Value)
 /-- any other thing,by what is true of its one object (a def of one's own: zQ a S n:=HO.ext fun h=>..) -/
 | ext (φ:Heap->Prop)
abbrev Hp:=Addr->Option HO
def upd (H:Hp) (a:Addr) (o:HO):Hp:=fun b=>if b=a then some o else H b
theorem ao {H:Hp} {a:Addr} {o:HO}:upd H a o a=some o:=by unfold upd; rw [if_pos rfl]
theorem aB {H:Hp} {a b:Addr} {o:HO} (h:b≠a):upd H a o b=H b:=by unfold upd; rw [if_neg h]
theorem aau {H:Hp} {a b:Addr} {o u:HO} (h:H a=some o) (h':H b=some u) (d:o≠u):a≠b:=by
 intro e; subst e; rw [h] at h'; exact d (Option.some.inj h')
theorem aH {H:Hp} {a b:Addr} {o:HO} (h:H a=some o) (h':H b=none):a≠b:=by
 intro e; subst e; rw [h] at h'; cases h'
def lJ (h:Heap) (a:Addr) (items:Array Value):Prop:=∃ o,h.get? a=some o/\o.cls=.type "tuple"/\(∃ n,o.data=.seq items n)/\o.dict=none
theorem lJ.to {h:Heap} {a:Addr} {items:Array Value} (x:lJ h a items):IsTup h a items:=let ⟨o,e,c,d,_⟩:=x; ⟨o,e,c,d⟩
theorem lJ.new (h:Heap) (items:Array Value):lJ (h.push { cls:=.type "tuple",data:=.seq items }) h.objs.size items:=⟨_,Heap.get?_push_size _ rfl,rfl,⟨_,rfl⟩,rfl⟩
section
variable (P:Program) (w:World)
def bQ (H:Hp) (h:Heap) (a:Addr):HO->Prop
 | .lst xs=>xs.length<=sizeLine/\∃ (its:List Value) (n:Nat),Vals xs its/\h.get? a=some { cls:=.type "list",data:=.seq its.toArray n }
 | .tup xs=>xs.length<=sizeLine/\∃ its:List Value,Vals xs its/\lJ h a its.toArray
 | .dK kvs=>kvs.length<=sizeLine/\(a == sysModules)=false/\∃ vs,KV kvs vs/\h.DictOf (aK P w) a vs
 | .dT kvs=>kvs.length<=sizeLine/\(a == sysModules)=false/\∃ xs:List (List Key × Addr × Value),
     Paired (fun (p:List Key × V) (q:List Key × Addr × Value)=>p.1=q.1/\H q.2.1=some (.tup (p.1.map kV))/\RelV p.2 q.2.2) kvs xs /\
     ∃ o es ep,h.get? a=some o/\o.ExactDict/\o.data=.dict es ep/\es.toList=xs.map (entryOfKey (tupleKind (aK P w)))/\(xs.map (·.1)).Nodup
 | .set S n=>h.SetOf (intKind P w) a S n
 | .ins C dx fs=>H dx=some (.own a)/\fs.length<=1000/\dx≠a/\h.get? a=some (PySem.W.instObj C dx) /\
     ∃ mA,h.Ns1 dx mA/\(∀ f,mG (fs.lookup f) (mA f))/\PySem.Within mA (fs.map (·.1))
 | .own _=>∃ o,h.get? a=some o
 | .xd fs=>∃ mA,h.Ns1 a mA/\∀ f,mG (fs.lookup f) (mA f)
 | .rng lo hi=>∃ t u v,h.get? a=some { cls:=.type "range",data:=.fields #[.int lo t,.int hi u,.int 1 v] }
 | .iQ o u=>h.get? a=some o/\bQ H h a u
 | .W7 ps=>h.get? a=some { cls:=.none,data:=.fields ps }
 | .met f x=>h.get? a=some (PySem.W.methodObj (.ref f) (.ref x))
 | .ext φ=>φ h/\(∃ o,h.get? a=some o)/\∀ h1 h2:Heap,φ h1->(∀ o,h1.get? a=some o->h2.get? a=some o)->φ h2
def pY (H:Hp) (h:Heap):Prop:=∀ a o,H a=some o->bQ P w H h a o
end
section
variable {P:Program} {w:World} {H H':Hp} {h h':Heap} {a:Addr} {o:HO}
theorem bQ.lt (x:bQ P w H h a o):a<h.objs.size:=by
 cases o with
 | lst xs=>obtain ⟨_,_,_,_,e⟩:=x; exact Heap.lt_size e
 | tup xs=>obtain ⟨_,_,_,_,e,_⟩:=x; exact Heap.lt_size e
 | dK kvs=>obtain ⟨_,_,_,_,o,_,_,e,_⟩:=x; exact Heap.lt_size e
 | dT kvs=>obtain ⟨_,_,_,_,o,_,_,e,_⟩:=x; exact Heap.lt_size e
 | set S n=>obtain ⟨o,_,_,_,e,_⟩:=x; exact Heap.lt_size e
 | ins C dx fs=>obtain ⟨_,_,_,e,_⟩:=x; exact Heap.lt_size e
 | own y=>obtain ⟨_,e⟩:=x; exact Heap.lt_size e
 | xd fs=>obtain ⟨_,⟨_,_,_,e,_⟩,_⟩:=x; exact Heap.lt_size e
 | rng lo hi=>obtain ⟨_,_,_,e⟩:=x; exact Heap.lt_size e
 | iQ ob u=>obtain ⟨e,_⟩:=x; exact Heap.lt_size e
 | W7 ps=>exact Heap.lt_size (show h.get? a=some _ from x)
 | met f y=>exact Heap.lt_size (show h.get? a=some _ from x)
 | ext φ=>obtain ⟨_,⟨_,e⟩,_⟩:=x; exact Heap.lt_size e
theorem Paired.W8 {α β:Type} {F G:α->β->Prop}:∀ {l₁:List α} {l₂:List β},Paired F l₁ l₂->(∀ a b,F a b->G a b)->Paired G l₁ l₂
 | _,_,.nil,_=>.nil
 | _,_,.cons r t,f=>.cons (f _ _ r) (Paired.W8 t f)
theorem bQ.stay (x:bQ P w H h a o) (k:∀ b u,(b=a∨H b=some (.own a))->h.get? b=some u->h'.get? b=some u)
   (ho:∀ b,H b=some (.own a)->H' b=some (.own a)) (ht:∀ b xs,H b=some (.tup xs)->H' b=some (.tup xs)):bQ P w H' h' a o:=by
 induction o with
 | lst xs=>obtain ⟨z,its,n,r,e⟩:=x; exact ⟨z,its,n,r,k _ _ (.inl rfl) e⟩
 | tup xs=>obtain ⟨z,its,r,ob,e,c⟩:=x; exact ⟨z,its,r,ob,k _ _ (.inl rfl) e,c⟩
 | dK kvs=>obtain ⟨z,y,vs,r,ob,es,ep,e,c⟩:=x; exact ⟨z,y,vs,r,ob,es,ep,k _ _ (.inl rfl) e,c⟩
 | dT kvs =>
   obtain ⟨z,y,xs,r,ob,es,ep,e,c⟩:=x
   exact ⟨z,y,xs,Paired.W8 r fun p q z=>⟨z.1,ht _ _ z.2.1,z.2.2⟩,ob,es,ep,k _ _ (.inl rfl) e,c⟩
 | set S n=>obtain ⟨ob,es,ep,t,e,c⟩:=x; exact ⟨ob,es,ep,t,k _ _ (.inl rfl) e,c⟩
 | ins C dx fs =>
   obtain ⟨d,z,ne,e,mA,⟨od,es,ep,e2,c⟩,r⟩:=x
   exact ⟨ho _ d,z,ne,k _ _ (.inl rfl) e,mA,⟨od,es,ep,k _ _ (.inr d) e2,c⟩,r⟩
 | own y=>obtain ⟨ob,e⟩:=x; exact ⟨ob,k _ _ (.inl rfl) e⟩
 | xd fs=>obtain ⟨mA,⟨od,es,ep,e,c⟩,r⟩:=x; exact ⟨mA,⟨od,es,ep,k _ _ (.inl rfl) e,c⟩,r⟩
 | rng lo hi=>obtain ⟨t,u,v,e⟩:=x; exact ⟨t,u,v,k _ _ (.inl rfl) e⟩
 | iQ ob u ih=>obtain ⟨e,q⟩:=x; exact ⟨k _ _ (.inl rfl) e,ih q⟩
 | W7 ps =>
   have e:h.get? a=some { cls:=.none,data:=.fields ps }:=x
   show h'.get? a=some { cls:=.none,data:=.fields ps }
   exact k a _ (.inl rfl) e
 | met f y =>
   have e:h.get? a=some (PySem.W.methodObj (.ref f) (.ref y)):=x
   show h'.get? a=some (PySem.W.methodObj (.ref f) (.ref y))
   exact k a _ (.inl rfl) e
 | ext φ=>obtain ⟨p,⟨o,e⟩,st⟩:=x; exact ⟨st _ _ p fun o q=>k _ _ (.inl rfl) q,⟨o,k _ _ (.inl rfl) e⟩,st⟩
theorem pY.lt (x:pY P w H h) (e:H a=some o):a<h.objs.size:=(x a o e).lt
theorem pY.fresh (x:pY P w H h) (e:h.objs.size<=a):H a=none:=by
 cases q:H a with
 | none=>rfl
 | some u=>exact absurd (Nat.lt_of_lt_of_le (x.lt q) e) (Nat.lt_irrefl _)
theorem pY.kept (x:pY P w H h) (k:∀ b u,h.get? b=some u->h'.get? b=some u):pY P w H h':=fun a o e =>
 (x a o e).stay (fun b u _ q=>k b u q) (fun _ q=>q) fun _ _ q=>q
theorem pY.laid (x:pY P w H h) (k:∀ b u,h.get? b=some u->h'.get? b=some u) (hp:h.objs.size<=a) (new:bQ P w (upd H a o) h' a o):pY P w (upd H a o) h':=fun b u e=>by
 have hn:=x.fresh hp
 by_cases hb:b=a
 . subst hb; rw [ao] at e; cases e; exact new
 . rw [aB hb] at e
   exact (x b u e).stay (fun c v _ q=>k c v q) (fun c q=>by rw [aB (aH q hn)]; exact q) fun c xs q=>by rw [aB (aH q hn)]; exact q
end
def Rd (H:Hp) (a:Addr) (u:HO):Prop:=H a=some u∨∃ o,H a=some (.iQ o u)
theorem Rd.ok {P:Program} {w:World} {H:Hp} {h:Heap} {a:Addr} {u:HO} (r:Rd H a u) (x:pY P w H h):bQ P w H h a u:=by
 rcases r with r | ⟨o,r⟩
 . exact x a u r
 . obtain ⟨_,q⟩:=x a _ r
   exact q
def Mut:Option HO->Prop
 | some (.lst _)=>True
 | some (.dK _)=>True
 | some (.dT _)=>True
 | some (.set _ _)=>True
 | some (.ins _ _ _)=>True
 | some (.ext _)=>True
 | _=>False
section
variable {P:Program} {w:World} {H:Hp} {h h':Heap} {x e:Addr} {o':HO}
theorem pY.write (ok:pY P w H h) (mu:Mut (H x)) (he:e=x∨H e=some (.own x)) (k:∀ b u,b≠e->h.get? b=some u->h'.get? b=some u) (heo:∃ u,h'.get? e=some u)
   (new:bQ P w (upd H x o') h' x o'):pY P w (upd H x o') h':=fun b u q=>by
 have aaw:∀ c y,H c=some (.own y)->c≠x:=fun c y r z=>by subst z; rw [r] at mu; exact mu
 have aeP:∀ c xs,H c=some (.tup xs)->c≠x:=fun c xs r z=>by subst z; rw [r] at mu; exact mu
 by_cases hb:b=x
 . subst hb; rw [ao] at q; cases q; exact new
 . rw [aB hb] at q
   by_cases hbe:b=e
   . have q':H b=some (.own x):=by
       rcases he with z | z
       . exact absurd (hbe.trans z) hb
       . rw [hbe]; exact z
     rw [q] at q'; cases q'
     obtain ⟨v,hv⟩:=heo
     exact ⟨v,by rw [hbe]; exact hv⟩
   . refine (ok b u q).stay (fun c v hc r=>k c v ?_ r) (fun c r=>by rw [aB (aaw c b r)]; exact r) fun c xs r=>by rw [aB (aeP c xs r)]; exact r
     rcases hc with rfl | hc
     . exact hbe
     . rintro rfl
       rcases he with z | z
       . exact aaw c b hc z
       . rw [hc] at z; cases z; exact hb rfl
end
structure Un (fs ex:List Addr) (H H':Hp) (h h':Heap):Prop where
 keep:∀ b o,h.get? b=some o->H b=none->b ∉ fs->b ∉ ex->h'.get? b=some o
 slot:∀ b o,h.get? b=some o->H b=none->b∈fs->b ∉ ex->∃ sl,h'.get? b=some { o with slots:=sl }
 free:∀ b o,h.get? b=some o->H b=none->b ∉ ex->H' b=none
 there:∀ b o,h.get? b=some o->b ∉ ex->∃ o',h'.get? b=some o'
 tups:∀ b xs,H b=some (.tup xs)->H' b=some (.tup xs)
 xR:∀ b o u,H b=some (.iQ o u)->H' b=some (.iQ o u)
 zR:∀ b ps,H b=some (.W7 ps)->∃ more,H' b=some (.W7 (ps++more))
section
variable {fs fs' ex ex':List Addr} {H H1 H2:Hp} {h h1 h2 h':Heap} {a x e:Addr} {o:HO}
theorem Un.any (u:Un fs ex H H1 h h1) {b:Addr} {ob:Obj} (q:h.get? b=some ob) (n:H b=none) (hx:b ∉ ex):∃ sl,h1.get? b=some { ob with slots:=sl }:=by
 by_cases hb:b∈fs
 . exact u.slot b ob q n hb hx
 . exact ⟨ob.slots,u.keep b ob q n hb hx⟩
theorem Un.kept (k:∀ b u,h.get? b=some u->h'.get? b=some u):Un fs ex H H h h' :=
 ⟨fun b ob q _ _ _=>k b ob q,fun b ob q _ _ _=>⟨ob.slots,k b ob q⟩,fun _ _ _ n _=>n,fun b ob q _=>⟨ob,k b ob q⟩,fun _ _ q=>q,fun _ _ _ q=>q,fun _ ps q=>⟨#[],by rw [q]; simp⟩⟩
theorem Un.refl:Un fs ex H H h h:=Un.kept fun _ _ q=>q
theorem Un.laid (k:∀ b u,h.get? b=some u->h'.get? b=some u) (hp:h.objs.size<=a) (hn:H a=none):Un fs ex H (upd H a o) h h' where
 keep:=fun b u q _ _ _=>k b u q
 slot:=fun b u q _ _ _=>⟨u.slots,k b u q⟩
 free:=fun b u q n _=>by rw [aB (Nat.ne_of_lt (Nat.lt_of_lt_of_le (Heap.lt_size q) hp))]; exact n
 there:=fun b u q _=>⟨u,k b u q⟩
 tups:=fun b xs q=>by rw [aB (aH q hn)]; exact q
 xR:=fun b u xs q=>by rw [aB (aH q hn)]; exact q
 zR:=fun b ps q=>⟨#[],by rw [aB (aH q hn),q]; simp⟩
theorem Un.write (mu:Mut (H x)) (he:e=x∨H e=some (.own x)) (k:∀ b u,b≠e->h.get? b=some u->h'.get? b=some u) (heo:∃ u,h'.get? e=some u):Un fs ex H (upd H x o) h h':=by
 have hx:∀ b,H b=none->b≠x:=fun b n z=>by subst z; rw [n] at mu; exact mu
 have hb:∀ b,H b=none->b≠e:=fun b n z=>by
   subst z
   rcases he with r | r
   . exact hx b n r
   . rw [n] at r; cases r
 have hm:∀ b u,H b=some u->¬ Mut (some u)->b≠x:=fun b u q nm z=>by subst z; rw [q] at mu; exact nm mu
 refine ⟨fun b u q n _ _=>k b u (hb b n) q,fun b u q n _ _=>⟨u.slots,k b u (hb b n) q⟩,fun b u q n _=>by rw [aB (hx b n)]; exact n,fun b u q _=>?_,
   fun b xs q=>by rw [aB (hm b _ q fun z=>z)]; exact q,fun b u xs q=>by rw [aB (hm b _ q fun z=>z)]; exact q,fun b ps q=>⟨#[],by rw [aB (hm b _ q fun z=>z),q]; simp⟩⟩
 by_cases hbe:b=e
 . subst hbe; exact heo
 . exact ⟨u,k b u hbe q⟩
end
def trk (h:Heap) (H:Hp):List Addr:=(List.range h.objs.size).filter fun a=>(H a).isSome
def zT (h:Heap) (H:Hp):Heap:=PySem.W.hideAll h (trk h H)
theorem JH (h:Heap) (H:Hp):(zT h H).objs.size=h.objs.size:=PySem.W.hideAll_size _ _
theorem M7 {h:Heap} {H:Hp} {b:Addr} {o:Obj} (e:h.get? b=some o) (n:H b=none):(zT h H).get? b=some o :=
 PySem.W.hideAll_get _ e fun hm=>by
   have q:(H b).isSome=true:=(List.mem_filter.mp hm).2
   rw [n] at q; simp at q
theorem Td {h:Heap} {H:Hp} {b:Addr} {o:Obj} (e:(zT h H).get? b=some o):h.get? b=some o/\H b=none:=by
 have e':h.get? b=some o:=PySem.W.of_hideAll (trk h H) e
 refine ⟨e',?_⟩
 cases q:H b with
 | none=>rfl
 | some x =>
   have hm:b∈trk h H:=List.mem_filter.mpr ⟨List.mem_range.mpr (Heap.lt_size e'),by simp [q]⟩
   have z:(zT h H).get? b=none:=PySem.W.hideAll_none (trk h H) hm
   rw [z] at e; cases e
end L2
namespace L2
open PySem PySem.Spec PyProof.Rows
structure Mod (K:PySem.W.Frag) (mg:Str->Option Value) (base:Heap):Prop where
 kin:K.In base
 glob:base.Ns mainGlobals mg
 blt:∃ mb,base.Ns builtinsNs mb/\∀ x:Str,x≠"__name__"->mb x=bootBuiltins x
 nolimit:base.NoLimit
structure Cx where
 prog:Program
 w:World
 K:PySem.W.Frag
 mg:Str->Option Value
 base:Heap
 A:Around
 N:List Str
 s₀:Shared
 H₀:Hp
 env:Env
 outer:List Env
 stack:List Env
 ex:List Addr
 fn:Str->Bool
 calm:Bool
 pn:List (Addr × Obj)
 xe:Value->Shared->Prop
def frs (l:List Env):List Addr:=l.filterMap (·.frame)
abbrev Cx.fs (X:Cx):List Addr:=frs X.outer
def Vis (sc:Scope) (x:Str):Prop:=sc.names.lookup x=some .local∨sc.names.lookup x=some .cell∨sc.names.lookup x=some .free
def Loc (sc:Scope) (x:Str):Prop:=sc.names.lookup x=some .local∨sc.names.lookup x=some .cell
def Look (env:Env) (h:Heap) (m:Str->Option Value) (x:Str) (u:Value):Prop :=
 (env.kindOf x=some .local/\m x=some u)∨((env.kindOf x=some .cell∨env.kindOf x=some .free)/\∃ c,env.cells.lookup x=some c/\h.IsCell c (some u))
structure Cx.Ok (X:Cx):Prop where
 mod:Mod X.K X.mg X.base
 kind:X.env.scope.kind=.function
 glob:X.env.globals=mainGlobals
 blt:X.env.builtins=builtinsNs
 above:X.s₀.heap.objs.size<=X.env.locals
 inj:∀ x y c,X.env.cells.lookup x=some c->X.env.cells.lookup y=some c->x=y
 has:∀ x,(X.env.kindOf x=some .cell∨X.env.kindOf x=some .free)->∃ c,X.env.cells.lookup x=some c
 cab:∀ x c,X.fn x=true->X.env.cells.lookup x=some c->X.s₀.heap.objs.size<=c
 hd:X.calm=true->X.A.handled=none
 frames:X.A.frames=some X.stack
 stk:X.stack=X.outer∨(X.stack=X.env :: X.outer/\X.env.frame=some X.env.locals)
 exf:∀ b∈X.ex,b≠X.env.locals/\∀ x c,X.env.cells.lookup x=some c->c≠b
 bs:∀ b o,X.base.get? b=some o->X.s₀.heap.get? b=some o/\X.H₀ b=none
 Te:X.base.objs.size<=X.s₀.heap.objs.size
 M8:∀ b o,X.base.get? b=some o->b ∉ X.ex
 M9:∀ b∈X.ex,b ∉ X.fs
 um:X.s₀.heap.FunFrames X.base X.outer
 W9:∀ b∈X.fs,X.H₀ b=none
structure Inv (X:Cx) (pins:List (Addr × Obj)) (σ:List (Option V)) (H:Hp) (s:Shared):Prop where
 ok:X.Ok
 os:s.os=X.s₀.os
 bare:AllBare s.gens
 base:Un X.fs X.ex X.H₀ H X.s₀.heap s.heap
 loc:∃ m,s.heap.Ns X.env.locals m/\∀ (i:Nat) (x:Str) (v:V),X.N[i]?=some x->σ[i]?=some (some v)->Vis X.env.scope x->∃ u,RelV v u/\Look X.env s.heap m x u
 cell:∀ x c,X.env.cells.lookup x=some c->∃ v,s.heap.IsCell c v
 free:H X.env.locals=none
 j8:∀ x c,X.env.cells.lookup x=some c->H c=none
 pin:∀ p∈X.pn++pins,s.heap.get? p.1=some p.2/\H p.1=none/\p.1≠X.env.locals/\p.1 ∉ X.fs/\∀ v,p.2.data≠.cell v
 hok:pY X.prog X.w H s.heap
 len:σ.length=X.N.length
section
variable {X:Cx} {pins:List (Addr × Obj)} {σ:List (Option V)} {H H':Hp} {s:Shared} {h':Heap}
theorem Cx.Ok.aeQ (ok:X.Ok) {b:Addr} {o:Obj} (e:X.base.get? b=some o):b ∉ X.fs:=fun hb=>by
 have:=(ok.um.mem hb).1
 rw [e] at this; cases this
theorem Inv.bs (I:Inv X pins σ H s):∀ b o,X.base.get? b=some o->s.heap.get? b=some o/\H b=none:=fun b o e =>
 ⟨I.base.keep b o (I.ok.bs b o e).1 (I.ok.bs b o e).2 (I.ok.aeQ e) (I.ok.M8 b o e),I.base.free b o (I.ok.bs b o e).1 (I.ok.bs b o e).2 (I.ok.M8 b o e)⟩
theorem Inv.bk (I:Inv X pins σ H s):∀ b o,X.base.get? b=some o->s.heap.get? b=some o:=fun b o e=>(I.bs b o e).1
theorem Inv.mod (I:Inv X pins σ H s):Mod X.K X.mg X.base:=I.ok.mod
theorem Inv.sV (I:Inv X pins σ H s):X.K.In s.heap:=I.ok.mod.kin.keeps I.bk
theorem Inv.lt (I:Inv X pins σ H s):X.env.locals<s.heap.objs.size:=let ⟨_,hn,_⟩:=I.loc; hn.lt
theorem Inv.sz (I:Inv X pins σ H s):X.s₀.heap.objs.size<=s.heap.objs.size:=Nat.le_trans I.ok.above (Nat.le_of_lt I.lt)
theorem Inv.aeR (I:Inv X pins σ H s) {a:Addr} (h:s.heap.objs.size<=a):a ∉ X.fs:=fun hb=>by
 obtain ⟨_,o,ho,_⟩:=I.ok.um.mem hb
 exact absurd (Nat.lt_of_lt_of_le (Heap.lt_size ho) (Nat.le_trans I.sz h)) (Nat.lt_irrefl _)
theorem Inv.Xa (I:Inv X pins σ H s):∀ x c,X.env.cells.lookup x=some c->c≠X.env.locals:=fun x c e z=>by
 obtain ⟨v,o,ho,hd⟩:=I.cell x c e
 obtain ⟨m,⟨o',es,ep,ho',hd',_⟩,_⟩:=I.loc
 rw [z,ho'] at ho; cases ho; rw [hd'] at hd; cases hd
theorem Inv.um (I:Inv X pins σ H s):s.heap.FunFrames X.base X.outer:=by
 have all:∀ (l:List Env),(∀ b∈frs l,b∈X.fs)->X.s₀.heap.FunFrames X.base l->s.heap.FunFrames X.base l:=by
   intro l
   induction l with
   | nil=>intro _ _; trivial
   | cons env r ih =>
     intro hs hl
     obtain ⟨hk,⟨L,o,hf,hn,ho,hd⟩,hr⟩:=hl
     have hL:L∈X.fs:=hs L (by unfold frs; rw [List.filterMap_cons,hf]; exact List.mem_cons_self)
     obtain ⟨sl,e⟩:=I.base.slot L o ho (I.ok.W9 L hL) hL fun z=>I.ok.M9 L z hL
     exact ⟨hk,⟨L,_,hf,hn,e,hd⟩,ih (fun b hb=>hs b (by unfold frs; rw [List.filterMap_cons,hf]; exact List.mem_cons_of_mem _ hb)) hr⟩
 exact all X.outer (fun _ hb=>hb) I.ok.um
theorem Inv.stack (I:Inv X pins σ H s):s.heap.FunFrames X.base X.stack:=by
 rcases I.ok.stk with e | ⟨e,hf⟩
 . rw [e]; exact I.um
 . rw [e]
   obtain ⟨m,hn,_⟩:=I.loc
   refine .cons (by rw [I.ok.kind]; decide) hf hn ?_ I.um
   exact Heap.get?_none_of_le (Nat.le_trans I.ok.Te I.ok.above)
theorem Inv.El (I:Inv X pins σ H s):∀ b∈frs X.stack,b∈X.env.locals :: X.fs:=fun b hb=>by
 rcases I.ok.stk with e | ⟨e,hf⟩
 . rw [e] at hb; exact List.mem_cons_of_mem _ hb
 . rw [e] at hb
   unfold frs at hb
   rw [List.filterMap_cons,hf] at hb
   exact hb
theorem Inv.Hy (I:Inv X pins σ H s):∀ b∈frs X.stack,H b=none:=fun b hb=>by
 rcases List.mem_cons.mp (I.El b hb) with e | hb
 . rw [e]; exact I.free
 . obtain ⟨_,o,ho,_⟩:=I.ok.um.mem hb
   exact I.base.free b o ho (I.ok.W9 b hb) fun z=>I.ok.M9 b z hb
theorem Inv.step {g':Array GenState} {t':Nat} {d':Drawn} {ch:List Addr} (I:Inv X pins σ H s)
   (hch:∀ b∈ch,(b∈X.ex∨X.s₀.heap.objs.size<=b)/\b≠X.env.locals/\(∀ x c,X.env.cells.lookup x=some c->c≠b)/\∀ p∈X.pn++pins,p.1≠b)
   (keep:∀ b o,b≠X.env.locals->b ∉ X.fs->b ∉ ch->s.heap.get? b=some o->H b=none->h'.get? b=some o)
   (slot:∀ b o,b≠X.env.locals->b∈X.fs->b ∉ ch->s.heap.get? b=some o->H b=none->∃ sl,h'.get? b=some { o with slots:=sl }) (free:∀ b o,b ∉ ch->s.heap.get? b=some o->H b=none->H' b=none)
   (there:∀ b o,b ∉ ch->s.heap.get? b=some o->∃ o',h'.get? b=some o')
   (tups:∀ b xs,H b=some (.tup xs)->H' b=some (.tup xs)) (xR:∀ b o u,H b=some (.iQ o u)->H' b=some (.iQ o u)) (zR:∀ b ps,H b=some (.W7 ps)->∃ more,H' b=some (.W7 (ps++more)))
   (ns:∀ m,s.heap.Ns X.env.locals m->h'.Ns X.env.locals m) (hok:pY X.prog X.w H' h') (hg:AllBare g') :
   Inv X pins σ H' { s with heap:=h',gens:=g',drawn:=d',toks:=t' }:=by
 have neL:∀ b o,X.s₀.heap.get? b=some o->b≠X.env.locals:=fun b o e=>Nat.ne_of_lt (Nat.lt_of_lt_of_le (Heap.lt_size e) I.ok.above)
 have neC:∀ b o,X.s₀.heap.get? b=some o->b ∉ X.ex->b ∉ ch:=fun b o e hx hb=>by
   rcases (hch b hb).1 with z | z
   . exact hx z
   . exact absurd (Nat.lt_of_lt_of_le (Heap.lt_size e) z) (Nat.lt_irrefl _)
 have cellK:∀ x c,X.env.cells.lookup x=some c->∀ v,s.heap.IsCell c v->h'.IsCell c v:=fun x c e v ⟨o,ho,hd⟩=>by
   have nch:c ∉ ch:=fun z=>(hch c z).2.2.1 x c e rfl
   by_cases hc:c∈X.fs
   . obtain ⟨sl,q⟩:=slot c o (I.Xa x c e) hc nch ho (I.j8 x c e)
     exact ⟨_,q,hd⟩
   . exact ⟨o,keep c o (I.Xa x c e) hc nch ho (I.j8 x c e),hd⟩
 refine ⟨I.ok,I.os,hg,⟨fun b o e n hb hx=>?_,fun b o e n hb hx=>?_,fun b o e n hx=>?_,fun b o e hx=>?_,fun b xs e=>tups b xs (I.base.tups b xs e),fun b o xs e=>xR b o xs (I.base.xR b o xs e),fun b ps e=>?_⟩,?_,fun x c e=>?_,?_,fun x c e=>?_,fun p hp=>?_,hok,I.len⟩
 . exact keep b o (neL b o e) hb (neC b o e hx) (I.base.keep b o e n hb hx) (I.base.free b o e n hx)
 . obtain ⟨sl,e1⟩:=I.base.slot b o e n hb hx
   obtain ⟨sl',e2⟩:=slot b _ (neL b o e) hb (neC b o e hx) e1 (I.base.free b o e n hx)
   exact ⟨sl',e2⟩
 . obtain ⟨o',e1⟩:=I.base.there b o e hx
   exact free b o' (neC b o e hx) e1 (I.base.free b o e n hx)
 . obtain ⟨o',e1⟩:=I.base.there b o e hx
   exact there b o' (neC b o e hx) e1
 . obtain ⟨m1,e1⟩:=I.base.zR b ps e
   obtain ⟨m2,e2⟩:=zR b _ e1
   exact ⟨m1++m2,by rw [e2,Array.append_assoc]⟩
 . obtain ⟨m,hn,hl⟩:=I.loc
   refine ⟨m,ns m hn,fun i x v e1 e2 e3=>?_⟩
   obtain ⟨u,r,l⟩:=hl i x v e1 e2 e3
   refine ⟨u,r,?_⟩
   rcases l with l | ⟨k,c,e,z⟩
   . exact .inl l
   . exact .inr ⟨k,c,e,cellK x c e _ z⟩
 . obtain ⟨v,z⟩:=I.cell x c e
   exact ⟨v,cellK x c e v z⟩
 . obtain ⟨m,⟨o,_,_,ho,_⟩,_⟩:=I.loc
   exact free _ o (fun z=>(hch _ z).2.1 rfl) ho I.free
 . obtain ⟨v,o,ho,hd⟩:=I.cell x c e
   exact free c o (fun z=>(hch c z).2.2.1 x c e rfl) ho (I.j8 x c e)
 . obtain ⟨e,n,ne,nf,d⟩:=I.pin p hp
   have nch:p.1 ∉ ch:=fun z=>(hch p.1 z).2.2.2 p hp rfl
   exact ⟨keep p.1 p.2 ne nf nch e n,free p.1 p.2 nch e n,ne,nf,d⟩
theorem Inv.un {t':Nat} (I:Inv X pins σ H s) (u:Un X.fs [] H H' s.heap h') (hok:pY X.prog X.w H' h'):Inv X pins σ H' { s with heap:=h',toks:=t' }:=by
 obtain ⟨m,⟨o,es,ep,ho,r⟩,_⟩:=id I.loc
 obtain ⟨sl,hL⟩:=u.any ho I.free (by simp)
 exact I.step (g':=s.gens) (d':=s.drawn) (ch:=[]) (fun _ z=>nomatch z) (fun b o _ hb _ e n=>u.keep b o e n hb (by simp)) (fun b o _ hb _ e n=>u.slot b o e n hb (by simp)) (fun b o _ e n=>u.free b o e n (by simp)) (fun b o _ e=>u.there b o e (by simp)) u.tups u.xR u.zR (fun m' hm=>by
   obtain ⟨o',es',ep',ho',r'⟩:=hm
   rw [ho] at ho'; cases ho'
   exact ⟨_,es',ep',hL,r'⟩) hok I.bare
theorem Inv.call {g':Array GenState} {t':Nat} {d':Drawn} {ch:List Addr} (I:Inv X pins σ H s) (u:Un (frs X.stack) ch H H' s.heap h') (hok:pY X.prog X.w H' h') (hg:AllBare g')
   (hch:∀ b∈ch,(b∈X.ex∨X.s₀.heap.objs.size<=b)/\b≠X.env.locals/\(∀ x c,X.env.cells.lookup x=some c->c≠b)/\∀ p∈X.pn++pins,p.1≠b) :
   Inv X pins σ H' { s with heap:=h',gens:=g',drawn:=d',toks:=t' }:=by
 obtain ⟨m,⟨o,es,ep,ho,r⟩,_⟩:=id I.loc
 obtain ⟨sl,hL⟩:=u.any ho I.free fun z=>(hch _ z).2.1 rfl
 exact I.step (ch:=ch) hch (fun b o hL hb hc e n=>u.keep b o e n (fun z=>(List.mem_cons.mp (I.El b z)).elim hL hb) hc) (fun b o _ _ hc e n=>u.any e n hc) (fun b o hc e n=>u.free b o e n hc) (fun b o hc e=>u.there b o e hc) u.tups u.xR u.zR (fun m' hm=>by
   obtain ⟨o',es',ep',ho',r'⟩:=hm
   rw [ho] at ho'; cases ho'
   exact ⟨_,es',ep',hL,r'⟩) hok hg
theorem Inv.turned {t':Nat} {it:Addr} (I:Inv X pins σ H s) (k:∀ b o,b≠it->s.heap.get? b=some o->h'.get? b=some o) (hn:H it=none) (hL:it≠X.env.locals)
   (h1:it∈X.ex∨X.s₀.heap.objs.size<=it) (h2:∀ x c,X.env.cells.lookup x=some c->c≠it) (h3:∀ p∈X.pn++pins,p.1≠it):Inv X pins σ H { s with heap:=h',toks:=t' }:=by
 have nit:∀ b u,H b=some u->b≠it:=fun b u e z=>by rw [z,hn] at e; cases e
 refine I.step (g':=s.gens) (d':=s.drawn) (ch:=[it]) (fun b hb=>?_) (fun b o _ _ hc e _=>k b o (fun z=>hc (by simp [z])) e) (fun b o _ _ hc e _=>⟨o.slots,k b o (fun z=>hc (by simp [z])) e⟩) (fun _ _ _ _ n=>n)
   (fun b o hc e=>⟨o,k b o (fun z=>hc (by simp [z])) e⟩) (fun _ _ e=>e) (fun _ _ _ e=>e) (fun b ps e=>⟨#[],by rw [e]; simp⟩) (fun m hm=>?_) (fun b u e=>?_) I.bare
 . have e:b=it:=by simpa using hb
   subst e
   exact ⟨h1,hL,h2,h3⟩
 . obtain ⟨o,es,ep,ho,r⟩:=hm
   exact ⟨o,es,ep,k _ o (Ne.symm hL) ho,r⟩
 . refine (I.hok b u e).stay (fun c v hc q=>k c v ?_ q) (fun _ q=>q) fun _ _ q=>q
   rcases hc with z | z
   . rw [z]; exact nit b u e
   . exact nit c _ z
theorem Inv.tok (I:Inv X pins σ H s) (t:Nat):Inv X pins σ H { s with toks:=t }:=I.un (h':=s.heap) (t':=t) Un.refl I.hok
theorem Inv.kept {t':Nat} (I:Inv X pins σ H s) (k:∀ b u,s.heap.get? b=some u->h'.get? b=some u):Inv X pins σ H { s with heap:=h',toks:=t' }:=I.un (Un.kept k) (I.hok.kept k)
theorem Inv.laid {a:Addr} {o:HO} {t':Nat} (I:Inv X pins σ H s) (k:∀ b u,s.heap.get? b=some u->h'.get? b=some u) (hp:s.heap.objs.size<=a) (new:bQ X.prog X.w (upd H a o) h' a o) :
   Inv X pins σ (upd H a o) { s with heap:=h',toks:=t' }:=I.un (Un.laid k hp (I.hok.fresh hp)) (I.hok.laid k hp new)
theorem Inv.write {x e:Addr} {o:HO} {t':Nat} (I:Inv X pins σ H s) (mu:Mut (H x)) (he:e=x∨H e=some (.own x)) (k:∀ b u,b≠e->s.heap.get? b=some u->h'.get? b=some u) (heo:∃ u,h'.get? e=some u)
   (new:bQ X.prog X.w (upd H x o) h' x o):Inv X pins σ (upd H x o) { s with heap:=h',toks:=t' }:=I.un (Un.write mu he k heo) (I.hok.write mu he k heo new)
theorem Inv.HB {Wa:List (Addr × Obj)} (I:Inv X pins σ H s) (h:∀ p∈Wa,s.heap.get? p.1=some p.2/\H p.1=none/\p.1≠X.env.locals/\p.1 ∉ X.fs/\∀ v,p.2.data≠.cell v):Inv X Wa σ H s :=
 ⟨I.ok,I.os,I.bare,I.base,I.loc,I.cell,I.free,I.j8,fun p hp=>(List.mem_append.mp hp).elim (fun z=>I.pin p (List.mem_append_left _ z)) (h p),I.hok,I.len⟩
theorem BZ {N:List Str} (hN:N.Nodup) {i j:Nat} {x:Str} (a:N[i]?=some x) (b:N[j]?=some x):i=j:=by
 obtain ⟨h1,e1⟩:=List.getElem?_eq_some_iff.mp a
 obtain ⟨h2,e2⟩:=List.getElem?_eq_some_iff.mp b
 exact (List.getElem_inj hN).mp (e1.trans e2.symm)
theorem yC {M:Model} {A:Around} {E:Value->Shared->Prop} {i:Nat} {x:Str} {v:V} {u:Value} {Q:Unit->Shared->Prop} (I:Inv X pins σ H s) (hN:X.N.Nodup) (hi:X.N[i]?=some x) (hx:Loc X.env.scope x) (r:RelV v u)
   (h:∀ s',Inv X pins (σ.set i (some v)) H s'->(∃ a,Heap.SameBut a s.heap s'.heap/\(a=X.env.locals∨X.env.cells.lookup x=some a))->Q () s') (hf:X.fn x=true∨X.env.scope.names.lookup x=some .local:=by first | exact .inl rfl | exact .inr rfl | assumption):wpAny M A (storeName X.env x u) Q E s:=by
 obtain ⟨m,hn,hl⟩:=id I.loc
 have hcls:(X.env.scope.kind == .class || (X.env.scope.kind == .module && X.env.locals != X.env.globals))=false:=by rw [I.ok.kind]; rfl
 have amb:i<σ.length:=by rw [I.len]; exact (List.getElem?_eq_some_iff.mp hi).1
 have Xa:=I.Xa
 have tracked:∀ {a:Addr} {h':Heap},(∃ o,s.heap.get? a=some o/\H a=none)->Heap.SameBut a s.heap h'->pY X.prog X.w H h':=fun {a h'} ha hs b ob e=>by
   obtain ⟨_,_,hfree⟩:=ha
   refine (I.hok b ob e).stay (fun c w' hc q=>(hs.2 c ?_).trans q) (fun _ q=>q) fun _ _ q=>q
   rintro rfl
   rcases hc with rfl | hc
   . rw [hfree] at e; cases e
   . rw [hfree] at hc; cases hc
 rcases hx with hk | hk
 . refine wpAny_storeName_local hk hn (fun h' hn' hs=>?_) hcls
   obtain ⟨oL,_,_,hoL,_⟩:=id hn
   refine h _ ⟨I.ok,I.os,I.bare,⟨fun b o e n hb hx=>?_,fun b o e n hb hx=>?_,I.base.free,fun b o e hx=>?_,I.base.tups,I.base.xR,I.base.zR⟩,⟨_,hn',fun j y v' e1 e2 e3=>?_⟩,fun y c e=>?_,I.free,I.j8,fun p hp=>?_,tracked ⟨oL,hoL,I.free⟩ hs,by simpa using I.len⟩ ⟨_,hs,.inl rfl⟩
   . exact (hs.2 b (Nat.ne_of_lt (Nat.lt_of_lt_of_le (Heap.lt_size e) I.ok.above))).trans (I.base.keep b o e n hb hx)
   . obtain ⟨sl,e1⟩:=I.base.slot b o e n hb hx
     exact ⟨sl,(hs.2 b (Nat.ne_of_lt (Nat.lt_of_lt_of_le (Heap.lt_size e) I.ok.above))).trans e1⟩
   . obtain ⟨o',e1⟩:=I.base.there b o e hx
     exact ⟨o',(hs.2 b (Nat.ne_of_lt (Nat.lt_of_lt_of_le (Heap.lt_size e) I.ok.above))).trans e1⟩
   . by_cases hj:j=i
     . subst hj
       rw [hi] at e1; cases e1
       rw [List.getElem?_set_self amb] at e2
       cases e2
       exact ⟨u,r,.inl ⟨hk,by simp⟩⟩
     . rw [List.getElem?_set_ne (Ne.symm hj)] at e2
       obtain ⟨u',r',q⟩:=hl j y v' e1 e2 e3
       refine ⟨u',r',?_⟩
       rcases q with ⟨k,e⟩ | ⟨k,c,e,z⟩
       . refine .inl ⟨k,?_⟩
         have:y≠x:=fun e=>hj (BZ hN e1 (e ▸ hi))
         simp [this,e]
       . exact .inr ⟨k,c,e,z.sameBut hs (Xa y c e)⟩
   . obtain ⟨w',z⟩:=I.cell y c e
     exact ⟨w',z.sameBut hs (Xa y c e)⟩
   . obtain ⟨e,n,ne,nf,d⟩:=I.pin p hp
     exact ⟨(hs.2 p.1 ne).trans e,n,ne,nf,d⟩
 . have hfn:X.fn x=true:=by
     rcases hf with z | z
     . exact z
     . rw [z] at hk; cases hk
   obtain ⟨c,hc⟩:=I.ok.has x (.inl hk)
   obtain ⟨w',z⟩:=I.cell x c hc
   refine wpAny_storeName_cell I.ok.kind hk hc z (fun h' hc' hs=>?_)
   obtain ⟨oc,hoc,aeS⟩:=id z
   refine h { s with heap:=h' } ⟨I.ok,I.os,I.bare,⟨fun b o e n hb hx=>?_,fun b o e n hb hx=>?_,I.base.free,fun b o e hx=>?_,I.base.tups,I.base.xR,I.base.zR⟩,⟨m,hn.sameBut hs (Ne.symm (Xa x c hc)),fun j y v' e1 e2 e3=>?_⟩,fun y c' e=>?_,I.free,I.j8,fun p hp=>?_,tracked ⟨oc,hoc,I.j8 x c hc⟩ hs,by simpa using I.len⟩ ⟨c,hs,.inr hc⟩
   . exact (hs.2 b (Nat.ne_of_lt (Nat.lt_of_lt_of_le (Heap.lt_size e) (I.ok.cab x c hfn hc)))).trans (I.base.keep b o e n hb hx)
   . obtain ⟨sl,e1⟩:=I.base.slot b o e n hb hx
     exact ⟨sl,(hs.2 b (Nat.ne_of_lt (Nat.lt_of_lt_of_le (Heap.lt_size e) (I.ok.cab x c hfn hc)))).trans e1⟩
   . obtain ⟨o',e1⟩:=I.base.there b o e hx
     exact ⟨o',(hs.2 b (Nat.ne_of_lt (Nat.lt_of_lt_of_le (Heap.lt_size e) (I.ok.cab x c hfn hc)))).trans e1⟩
   . by_cases hj:j=i
     . subst hj
       rw [hi] at e1; cases e1
       rw [List.getElem?_set_self amb] at e2
       cases e2
       exact ⟨u,r,.inr ⟨.inl hk,c,hc,hc'⟩⟩
     . rw [List.getElem?_set_ne (Ne.symm hj)] at e2
       obtain ⟨u',r',q⟩:=hl j y v' e1 e2 e3
       refine ⟨u',r',?_⟩
       rcases q with q | ⟨k,c',e,z'⟩
       . exact .inl q
       . refine .inr ⟨k,c',e,z'.sameBut hs ?_⟩
         rintro rfl
         exact hj (BZ hN e1 (I.ok.inj _ _ _ e hc ▸ hi))
   . by_cases hcc:c'=c
     . subst hcc; exact ⟨_,hc'⟩
     . obtain ⟨w2,z2⟩:=I.cell y c' e
       exact ⟨w2,z2.sameBut hs hcc⟩
   . obtain ⟨e,n,ne,nf,d⟩:=I.pin p hp
     refine ⟨(hs.2 p.1 ?_).trans e,n,ne,nf,d⟩
     intro q
     rw [q,hoc] at e
     have q':oc=p.2:=Option.some.inj e
     exact d w' (by rw [<- q']; exact aeS)
theorem Ca {M:Model} {A:Around} {E:Value->Shared->Prop} {i:Nat} {x:Str} {v:V} {u:Value} {Q:Unit->Shared->Prop} (I:Inv X pins σ H s) (hN:X.N.Nodup) (hi:X.N[i]?=some x) (hx:Loc X.env.scope x) (r:RelV v u)
   (h:∀ s',Inv X pins (σ.set i (some v)) H s'->Q () s') (hf:X.fn x=true∨X.env.scope.names.lookup x=some .local:=by first | exact .inl rfl | exact .inr rfl | assumption):wpAny M A (storeName X.env x u) Q E s :=
 yC I hN hi hx r (fun s' I' _=>h s' I') hf
theorem Inv.call' {s':Shared} {ch:List Addr} (I:Inv X pins σ H s) (ho:s'.os=s.os) (u:Un (frs X.stack) ch H H' s.heap s'.heap) (hok:pY X.prog X.w H' s'.heap) (hg:AllBare s'.gens)
   (hch:∀ b∈ch,(b∈X.ex∨X.s₀.heap.objs.size<=b)/\b≠X.env.locals/\(∀ x c,X.env.cells.lookup x=some c->c≠b)/\∀ p∈X.pn++pins,p.1≠b):Inv X pins σ H' s':=by
 obtain ⟨h',g',d',t',o'⟩:=s'
 have e:o'=s.os:=ho
 subst e
 exact I.call (g':=g') (t':=t') (d':=d') u hok hg hch
end
abbrev XK:=Value->Option Addr->Hp->Prop
abbrev St:=List (Option V)
abbrev VK:=V->Hp->Prop
abbrev TE:=St->Hp->VK->Prop
abbrev TT:=St->Hp->(Bool->Hp->Prop)->Prop
abbrev TA:=St->Hp->(List V->Hp->Prop)->Prop
structure Ends where
 nx:St->Hp->Prop
 rt:VK
 bk:St->Hp->Prop:=fun _ _=>False
 ct:St->Hp->Prop:=fun _ _=>False
abbrev TS:=Ends->St->Hp->Prop
def EP (X:Cx) (pins:List (Addr × Obj)) (σ:St) (Q:VK) (u:Value) (s':Shared):Prop:=∃ v H',Inv X pins σ H' s'/\RelV v u/\Q v H'
def TP (X:Cx) (pins:List (Addr × Obj)) (σ:St) (Q:Bool->Hp->Prop) (b:Bool) (s':Shared):Prop:=∃ H',Inv X pins σ H' s'/\Q b H'
def AP (X:Cx) (pins:List (Addr × Obj)) (σ:St) (Q:List V->Hp->Prop) (us:List Value) (s':Shared):Prop:=∃ vs H',Inv X pins σ H' s'/\Vals vs us/\Q vs H'
def SP (X:Cx) (pins:List (Addr × Obj)) (D:Ends) (f:Flow) (s':Shared):Prop :=
 match f with
 | .next=>∃ σ' H',Inv X pins σ' H' s'/\D.nx σ' H'
 | .brk=>∃ σ' H',Inv X pins σ' H' s'/\D.bk σ' H'
 | .cont=>∃ σ' H',Inv X pins σ' H' s'/\D.ct σ' H'
 | .ret u=>∃ v σ' H',Inv X pins σ' H' s'/\RelV v u/\D.rt v H'
def PE (X:Cx) (e:Expr) (t:TE):Prop :=
 ∀ (pins:List (Addr × Obj)) (s:Shared) (σ:St) (H:Hp) (Q:VK),Inv X pins σ H s->t σ H Q->wpAny (model X.prog X.w) X.A (eval e X.env) (EP X pins σ Q) X.xe s
def PT (X:Cx) (e:Expr) (t:TT):Prop :=
 ∀ (pins:List (Addr × Obj)) (s:Shared) (σ:St) (H:Hp) (Q:Bool->Hp->Prop),Inv X pins σ H s->t σ H Q->wpAny (model X.prog X.w) X.A (isTrue e X.env (eval e X.env)) (TP X pins σ Q) X.xe s
def PW (X:Cx) (e:Expr) (t:TT):Prop :=
 ∀ (whole:Sem Value) (pins:List (Addr × Obj)) (s:Shared) (σ:St) (H:Hp) (Q:Bool->Hp->Prop),Inv X pins σ H s->t σ H Q->wpAny (model X.prog X.w) X.A (isTrue e X.env whole) (TP X pins σ Q) X.xe s
theorem PW.pt {X:Cx} {e:Expr} {t:TT} (h:PW X e t):PT X e t:=h _
def PA (X:Cx) (es:List Expr) (t:TA):Prop :=
 ∀ (pos:Pos) (pins:List (Addr × Obj)) (s:Shared) (σ:St) (H:Hp) (Q:List V->Hp->Prop),Inv X pins σ H s->t σ H Q->wpAny (model X.prog X.w) X.A (spliced (backTo pos (starEach es X.env))) (AP X pins σ Q) X.xe s
def PS (X:Cx) (st:Stmt) (t:TS):Prop :=
 ∀ (pins:List (Addr × Obj)) (s:Shared) (σ:St) (H:Hp) (D:Ends),Inv X pins σ H s->t D σ H->wpAny (model X.prog X.w) X.A (exec st X.env) (SP X pins D) X.xe s
def JK (X:Cx) (st:List Stmt) (t:TS):Prop :=
 ∀ (pins:List (Addr × Obj)) (s:Shared) (σ:St) (H:Hp) (D:Ends),Inv X pins σ H s->t D σ H->wpAny (model X.prog X.w) X.A (execs st X.env) (SP X pins D) X.xe s
theorem cY {α:Type} {t:Sem α} {Q Q':α->Shared->Prop} {M:Model} {A:Around} {E:Value->Shared->Prop} {s:Shared} (h:wpAny M A t Q E s) (hQ:∀ a s,Q a s->Q' a s):wpAny M A t Q' E s:=wpAny_mono h hQ fun _ _ x=>x
end L2
namespace L2
open PySem PySem.Spec PyProof.Rows
section
variable {X:Cx}
def aeT (i:Nat):TE:=fun σ H Q=>∃ v,σ[i]?=some (some v)/\Q v H
def tC (v:V):TE:=fun _ H Q=>Q v H
theorem Xb {i:Nat} {x:Str} {pos:Pos} (hN:X.N[i]?=some x) (hv:Vis X.env.scope x) (hd:(x == ("__debug__" : Str))=false:=by decide) (hcd:(x == ("__classdict__" : Str))=false:=by decide):PE X (.Name x pos) (aeT i):=by
 intro pins s σ H Q I h
 obtain ⟨v,e,h⟩:=h
 obtain ⟨m,hn,hl⟩:=I.loc
 obtain ⟨u,r,l⟩:=hl i x v hN e hv
 have fin:EP X pins σ Q u s:=⟨v,H,I,r,h⟩
 rcases l with ⟨hk,hm⟩ | ⟨hk,c,hc,hcell⟩
 . exact wpAny_Name (wpAny_loadName_local I.ok.kind hk hn hm fin) hd
 . rcases hk with hk | hk
   . exact wpAny_Name (wpAny_loadName_cell I.ok.kind hk hc hcell fin) hd
   . exact wpAny_Name (wpAny_loadName_free I.ok.kind hk hc hcell fin hcd) hd
theorem aF {i j pos}:PE X (.Constant (.int i) j pos) (tC (.int i)):=fun _ _ _ H _ I h=>wpAny_Constant_int ⟨.int i,H,I.tok _,⟨_,rfl⟩,h⟩
theorem jR {b j pos}:PE X (.Constant (.bool b) j pos) (tC (.bl b)):=fun _ _ _ H _ I h=>Constant_bool ⟨.bl b,H,I,rfl,h⟩
theorem Nb {j pos}:PE X (.Constant .none j pos) (tC .non):=fun _ _ _ H _ I h=>Constant_none ⟨.non,H,I,rfl,h⟩
theorem jC {x j pos}:PE X (.Constant (.str x) j pos) (tC (.str x)):=fun _ _ _ H _ I h=>Calls.Constant_str ⟨.str x,H,I.tok _,⟨_,rfl⟩,h⟩
def Gl (X:Cx) (x:Str):Prop:=X.env.kindOf x=some .globalImplicit
theorem uy {E:Value->Shared->Prop} {pins:List (Addr × Obj)} {s:Shared} {σ:St} {H:Hp} {x:Str} {u:Value} {pos:Pos} {Q:Value->Shared->Prop} (I:Inv X pins σ H s) (hg:Gl X x) (hm:X.mg x=some u) (h:Q u s)
   (hd:(x == ("__debug__" : Str))=false:=by decide):wpAny (model X.prog X.w) X.A (eval (.Name x pos) X.env) Q E s :=
 Calls.Name_function_global I.ok.kind hg (Calls.loadGlobal_global (by rw [I.ok.glob]; exact I.mod.glob.keeps I.bk) hm h) hd
theorem uU {E:Value->Shared->Prop} {pins:List (Addr × Obj)} {s:Shared} {σ:St} {H:Hp} {x:Str} {u:Value} {pos:Pos} {Q:Value->Shared->Prop} (I:Inv X pins σ H s) (hg:Gl X x) (hm:X.mg x=none) (hv:bootBuiltins x=some u) (h:Q u s)
   (hn:x≠"__name__":=by decide) (hd:(x == ("__debug__" : Str))=false:=by decide):wpAny (model X.prog X.w) X.A (eval (.Name x pos) X.env) Q E s:=by
 obtain ⟨mb,h1,h2⟩:=I.mod.blt
 exact Calls.Name_function_global I.ok.kind hg (Calls.loadGlobal_builtin (by rw [I.ok.glob]; exact I.mod.glob.keeps I.bk) hm (by rw [I.ok.blt]; exact h1.keeps I.bk) ((h2 x hn).trans hv) h) hd
theorem pZ {x:Str} {v:V} {u:Value} {pos:Pos} (hg:Gl X x) (hm:X.mg x=some u) (r:RelV v u) (hd:(x == ("__debug__" : Str))=false:=by decide):PE X (.Name x pos) (tC v) :=
 fun _ _ _ H _ I h=>uy I hg hm ⟨v,H,I,r,h⟩ hd
theorem jk {x:Str} {v:V} {u:Value} {pos:Pos} (hg:Gl X x) (hm:X.mg x=none) (hv:bootBuiltins x=some u) (r:RelV v u) (hn:x≠"__name__":=by decide) (hd:(x == ("__debug__" : Str))=false:=by decide):PE X (.Name x pos) (tC v) :=
 fun _ _ _ H _ I h=>uU I hg hm hv ⟨v,H,I,r,h⟩ hn hd
variable {a b:Expr} {ta tb:TE} {pos:Pos}
def PC (X:Cx) (op:CmpOp) (a b:Expr) (t:TE):Prop :=
 ∀ (pins:List (Addr × Obj)) (s:Shared) (σ:St) (H:Hp) (Q:VK),Inv X pins σ H s->t σ H Q ->
   wpAny (model X.prog X.w) X.A (eval a X.env) (fun v s₁=>wpAny (model X.prog X.w) X.A (eval b X.env) (fun u s₂=>wpAny (model X.prog X.w) X.A (compareOp op v u) (EP X pins σ Q) X.xe s₂) X.xe s₁) X.xe s
theorem Cd (b:Expr) {op:CmpOp} (h:op≠.In) (h2:op≠.NotIn):behindInMarks op b=false:=by
 have e1:(op == CmpOp.In)=false:=by cases op <;> first | rfl | exact absurd rfl h
 have e2:(op == CmpOp.NotIn)=false:=by cases op <;> first | rfl | exact absurd rfl h2
 cases b <;> simp [behindInMarks,e1,e2]
def aaA (ta:TE):TE:=fun σ H Q=>ta σ H fun x H1=>Q (.bl (!decide (x=.non))) H1
theorem RelV.Nf {x:V} {v:Value} (r:RelV x v):(v == Value.none)=decide (x=.non):=by
 cases x with
 | non=>cases r; rfl
 | bl _=>cases r; rfl
 | int _=>obtain ⟨t,rfl⟩:=r; rfl
 | str _=>obtain ⟨t,rfl⟩:=r; rfl
 | JG _=>obtain ⟨t,rfl⟩:=r; rfl
 | flt _=>obtain ⟨t,rfl⟩:=r; rfl
 | ref _=>cases r; rfl
 | ty _=>cases r; rfl
theorem HD {j pos'} (ha:PE X a ta):PC X .IsNot a (.Constant .none j pos') (aaA ta):=by
 intro pins s σ H Q I h
 refine cY (ha pins s σ H _ I h) fun v s1 ⟨x,H1,I1,r1,q1⟩=>?_
 exact Constant_none (isnot_none_gen ⟨.bl _,H1,I1,by rw [r1.Nf]; rfl,q1⟩)
def tB (t:TE):TT:=fun σ H Q=>t σ H fun x H1=>∃ c,x=.bl c/\Q c H1
theorem Ng {op:CmpOp} {t:TE} (h:PC X op a b t) (h1:behindInMarks op b=false:=by first | exact Cd _ (by decide) (by decide) | rfl):PE X (.Compare a [op] [b] pos) t:=fun pins s σ H Q I hw=>wpAny_Compare1 (h pins s σ H Q I hw) h1
theorem lK {op:CmpOp} {t:TE} (h:PC X op a b t) (h1:behindInMarks op b=false:=by first | exact Cd _ (by decide) (by decide) | rfl):PT X (.Compare a [op] [b] pos) (tB t):=by
 intro pins s σ H Q I hw
 refine wpAny_isTrue_Compare1 (cY (h pins s σ H _ I hw) fun v s1 h1=>cY h1 fun u s2 h2=>cY h2 fun c s3 ⟨x,H1,I1,r1,q1⟩=>?_) h1
 obtain ⟨d,rfl,q⟩:=q1
 cases r1
 exact wpAny_truthy_bool ⟨H1,I1,q⟩
variable {tA Mw:TT} {rest:List Expr}
def aaB (t u:TT):TT:=fun σ H Q=>t σ H fun c H1=>if c=true then u σ H1 Q else Q false H1
def tOr (t u:TT):TT:=fun σ H Q=>t σ H fun c H1=>if c=true then Q true H1 else u σ H1 Q
def aeV (t:TT):TT:=fun σ H Q=>t σ H fun c H1=>Q (!c) H1
theorem pw_and1 (ha:PT X a tA):PW X (.BoolOp .And [a] pos) tA:=by
 intro wh pins s σ H Q I h
 refine isTrue_and (cY (ha pins s σ H Q I h) fun c s1 e=>?_)
 cases c with
 | true=>exact isTrue_and_nil e
 | false=>exact e
theorem pw_or1 (ha:PT X a tA):PW X (.BoolOp .Or [a] pos) tA:=by
 intro wh pins s σ H Q I h
 refine isTrue_or (cY (ha pins s σ H Q I h) fun c s1 e=>?_)
 cases c with
 | false=>exact isTrue_or_nil e
 | true=>exact e
theorem pw_and (ha:PT X a tA) (hb:PW X (.BoolOp .And (b :: rest) pos) Mw):PW X (.BoolOp .And (a :: b :: rest) pos) (aaB tA Mw):=by
 intro wh pins s σ H Q I h
 refine isTrue_and (cY (ha pins s σ H _ I h) fun c s1 ⟨H1,I1,q1⟩=>?_)
 cases c with
 | true=>exact hb wh pins s1 σ H1 Q I1 q1
 | false=>exact ⟨H1,I1,q1⟩
theorem pw_or (ha:PT X a tA) (hb:PW X (.BoolOp .Or (b :: rest) pos) Mw):PW X (.BoolOp .Or (a :: b :: rest) pos) (tOr tA Mw):=by
 intro wh pins s σ H Q I h
 refine isTrue_or (cY (ha pins s σ H _ I h) fun c s1 ⟨H1,I1,q1⟩=>?_)
 cases c with
 | true=>exact ⟨H1,I1,q1⟩
 | false=>exact hb wh pins s1 σ H1 Q I1 q1
theorem dH (ha:PT X a tA):PT X (.UnaryOp .Not a pos) (aeV tA):=by
 intro pins s σ H Q I h
 exact isTrue_not (ha pins s σ H (fun c H1=>Q (!c) H1) I h)
theorem mL {op} {t:TE} (h:PE X a t):PE X (.BoolOp op [a] pos) t:=fun pins s σ H Q I hw=>BoolOp_one (h pins s σ H Q I hw)
end
end L2
namespace L2
open PySem PySem.Spec PyProof.Rows
def cT (K:PySem.W.Frag) (H:Hp) (a:Addr) (xs:List V):Prop :=
 Rd H a (.lst xs) ∨
   ∃ (o:Obj) (its:Array Value) (n:Nat),K.lookup a=some o/\o.cls=.type "list"/\o.dict=none/\o.data=.seq its n/\its.size<=sizeLine/\Vals xs its.toList
def bW (K:PySem.W.Frag) (H:Hp) (a:Addr) (xs:List V):Prop :=
 Rd H a (.tup xs) ∨
   ∃ (o:Obj) (its:Array Value) (n:Nat),K.lookup a=some o/\o.cls=.type "tuple"/\o.data=.seq its n/\its.size<=sizeLine/\Vals xs its.toList
def aeW:Value->Option V
 | .none=>some .non
 | .bool b=>some (.bl b)
 | .int i _=>some (.int i)
 | .str x _=>some (.str x)
 | .bytes b _=>some (.JG b)
 | .float b _=>some (.flt b)
 | .ref a=>some (.ref a)
 | .type n=>some (.ty n)
 | _=>none
theorem RelV.abs {x:V} {u:Value} (r:RelV x u):aeW u=some x:=by
 cases x with
 | non=>cases r; rfl
 | bl _=>cases r; rfl
 | int _=>obtain ⟨t,rfl⟩:=r; rfl
 | str _=>obtain ⟨t,rfl⟩:=r; rfl
 | JG _=>obtain ⟨t,rfl⟩:=r; rfl
 | flt _=>obtain ⟨t,rfl⟩:=r; rfl
 | ref _=>cases r; rfl
 | ty _=>cases r; rfl
theorem RelV.inj {x y:V} {u:Value} (r:RelV x u) (q:RelV y u):x=y:=Option.some.inj (r.abs.symm.trans q.abs)
theorem Vals.inj:∀ {xs ys:List V} {us:List Value},Vals xs us->Vals ys us->xs=ys
 | _,_,_,.nil,.nil=>rfl
 | _,_,_,.cons r t,.cons r' t'=>by rw [r.inj r',Vals.inj t t']
section
variable {X:Cx} {pins:List (Addr × Obj)} {σ:St} {H:Hp} {s:Shared} {a:Addr} {xs ys:List V}
theorem cT.of {K:PySem.W.Frag} (h:H a=some (.lst xs)):cT K H a xs:=.inl (.inl h)
theorem bW.of {K:PySem.W.Frag} (h:H a=some (.tup xs)):bW K H a xs:=.inl (.inl h)
theorem Inv.list (I:Inv X pins σ H s) (h:cT X.K H a xs):∃ its:List Value,Vals xs its/\PlainL s.heap a its.toArray/\xs.length<=sizeLine:=by
 rcases h with h | ⟨o,its,n,hk,hc,hd,hs,hz,r⟩
 . obtain ⟨z,its,n,r,e⟩:=h.ok I.hok
   exact ⟨its,r,⟨_,n,e,rfl,rfl,rfl⟩,z⟩
 . refine ⟨its.toList,r,⟨o,n,I.sV a o hk,hc,hd,by simpa using hs⟩,?_⟩
   have e:=r.length
   simp only [Array.length_toList] at e
   omega
theorem Inv.tuple (I:Inv X pins σ H s) (h:bW X.K H a xs):∃ its:List Value,Vals xs its/\IsTup s.heap a its.toArray/\xs.length<=sizeLine:=by
 rcases h with h | ⟨o,its,n,hk,hc,hs,hz,r⟩
 . obtain ⟨z,its,r,p⟩:=h.ok I.hok
   exact ⟨its,r,p.to,z⟩
 . refine ⟨its.toList,r,⟨o,I.sV a o hk,hc,n,by simpa using hs⟩,?_⟩
   have e:=r.length
   simp only [Array.length_toList] at e
   omega
theorem Inv.Nh (I:Inv X pins σ H s) (h:cT X.K H a xs) (h':cT X.K H a ys):xs=ys:=by
 obtain ⟨its,r,⟨o,n,e,_,_,d⟩,_⟩:=I.list h
 obtain ⟨its',r',⟨o',n',e',_,_,d'⟩,_⟩:=I.list h'
 rw [e] at e'; cases e'
 rw [d] at d'
 injection d' with d1 _
 have:its=its':=by simpa using congrArg Array.toList d1
 subst this
 exact r.inj r'
theorem Inv.JL (I:Inv X pins σ H s) (h:bW X.K H a xs) (h':bW X.K H a ys):xs=ys:=by
 obtain ⟨its,r,⟨o,e,_,n,d⟩,_⟩:=I.tuple h
 obtain ⟨its',r',⟨o',e',_,n',d'⟩,_⟩:=I.tuple h'
 rw [e] at e'; cases e'
 rw [d] at d'
 injection d' with d1 _
 have:its=its':=by simpa using congrArg Array.toList d1
 subst this
 exact r.inj r'
end
abbrev Cx.wish (X:Cx) (E:Value->Shared->Prop):Cx:={ X with xe:=E }
abbrev Cx.nox (X:Cx):Cx:=X.wish fun _ _=>False
theorem Cx.Ok.wish {X:Cx} (ok:X.Ok) (E:Value->Shared->Prop):(X.wish E).Ok :=
 ⟨ok.mod,ok.kind,ok.glob,ok.blt,ok.above,ok.inj,ok.has,ok.cab,ok.hd,ok.frames,ok.stk,ok.exf,ok.bs,ok.Te,ok.M8,ok.M9,ok.um,ok.W9⟩
theorem Cx.Ok.mO {X:Cx} {E:Value->Shared->Prop} (ok:(X.wish E).Ok):X.Ok :=
 ⟨ok.mod,ok.kind,ok.glob,ok.blt,ok.above,ok.inj,ok.has,ok.cab,ok.hd,ok.frames,ok.stk,ok.exf,ok.bs,ok.Te,ok.M8,ok.M9,ok.um,ok.W9⟩
section
variable {X:Cx} {pins:List (Addr × Obj)} {σ:St} {H:Hp} {s:Shared} {E:Value->Shared->Prop}
theorem Inv.wish (I:Inv X pins σ H s) (E:Value->Shared->Prop):Inv (X.wish E) pins σ H s:=⟨I.ok.wish E,I.os,I.bare,I.base,I.loc,I.cell,I.free,I.j8,I.pin,I.hok,I.len⟩
theorem Inv.mO (I:Inv (X.wish E) pins σ H s):Inv X pins σ H s:=⟨I.ok.mO,I.os,I.bare,I.base,I.loc,I.cell,I.free,I.j8,I.pin,I.hok,I.len⟩
theorem SP.mO {D:Ends} {f:Flow} {s':Shared} (h:SP (X.wish E) pins D f s'):SP X pins D f s':=by
 cases f with
 | next=>obtain ⟨σ',H',I,q⟩:=h; exact ⟨σ',H',I.mO,q⟩
 | brk=>obtain ⟨σ',H',I,q⟩:=h; exact ⟨σ',H',I.mO,q⟩
 | cont=>obtain ⟨σ',H',I,q⟩:=h; exact ⟨σ',H',I.mO,q⟩
 | ret u=>obtain ⟨v,σ',H',I,r,q⟩:=h; exact ⟨v,σ',H',I.mO,r,q⟩
theorem JK.nox {st:List Stmt} {t:TS} (h:JK X.nox st t):JK X st t:=fun pins s σ H D I hw =>
 wpAny_mono (h pins s σ H D (I.wish _) hw) (fun _ _ q=>q.mO) fun _ _ z=>False.elim z
end
section
variable {X:Cx} {st:Stmt} {rest:List Stmt} {t u:TS} {e:Expr} {te:TE} {pos:Pos}
def Wb:TS:=fun D σ H=>D.nx σ H
def Ni (t u:TS):TS:=fun D σ H=>t { D with nx:=u D } σ H
theorem aW:JK X [] Wb:=fun _ _ σ H _ I h=>wpAny_execs_nil ⟨σ,H,I,h⟩
theorem au (h1:PS X st t) (h2:JK X rest u):JK X (st :: rest) (Ni t u):=by
 intro pins s σ H D I h
 refine wpAny_execs_cons (cY (h1 pins s σ H { D with nx:=u D } I h) fun f s1 q=>?_)
 cases f with
 | next =>
   obtain ⟨σ',H',I',q⟩:=q
   exact h2 pins s1 σ' H' D I' q
 | ret v=>exact q
 | brk=>exact q
 | cont=>exact q
theorem aG (h1:PS X st t):JK X [st] t:=by
 intro pins s σ H D I h
 refine wpAny_execs_cons (cY (h1 pins s σ H D I h) fun f s1 q=>?_)
 cases f with
 | next=>exact wpAny_execs_nil q
 | ret v=>exact q
 | brk=>exact q
 | cont=>exact q
theorem Inv.quiet {pins:List (Addr × Obj)} {σ:St} {H:Hp} {s:Shared} (I:Inv X pins σ H s):interactive X.env=false:=by simp [interactive,I.ok.kind]
def Wc (te:TE):TS:=fun D σ H=>te σ H fun _ H1=>D.nx σ H1
theorem fM (he:PE X e te) (hs:swapsWith e none pos.line X.env=pure false:=by rfl):PS X (.Expr e pos) (Wc te):=by
 intro pins s σ H D I h
 exact wpAny_Expr_any (cY (he pins s σ H _ I h) fun v s1 ⟨x,H1,I1,r1,q1⟩=>⟨σ,H1,I1,q1⟩) I.quiet hs
def aaC (te:TE):TS:=fun D σ H=>te σ H D.rt
theorem bh (he:PE X e te):PS X (.Return (some e) pos) (aaC te):=by
 intro pins s σ H D I h
 exact wpAny_Return_some (cY (he pins s σ H _ I h) fun v s1 ⟨x,H1,I1,r1,q1⟩=>⟨x,σ,H1,I1,r1,q1⟩)
def Tf (c:TT) (t u:TS):TS:=fun D σ H=>c σ H fun b H1=>if b=true then t D σ H1 else u D σ H1
theorem cC {c:Expr} {a b:List Stmt} {tc:TT} (hc:PT X c tc) (ha:JK X a t) (hb:JK X b u):PS X (.If c a b pos) (Tf tc t u):=by
 intro pins s σ H D I h
 refine wpAny_If (cY (hc pins s σ H _ I h) fun d s1 ⟨H1,I1,q1⟩=>?_)
 cases d with
 | true=>exact ha pins s1 σ H1 D I1 q1
 | false=>exact hb pins s1 σ H1 D I1 q1
def Xc:TS:=fun _ _ _=>False
theorem dZ:PS X st Xc:=fun _ _ _ _ _ _ h=>h.elim
end
abbrev TG:=V->St->Hp->(St->Hp->Prop)->Prop
abbrev Xd:=List V->St->Hp->(St->Hp->Prop)->Prop
def PG (X:Cx) (target:Expr) (t:TG):Prop :=
 ∀ (pins:List (Addr × Obj)) (s:Shared) (σ:St) (H:Hp) (v:V) (u:Value) (Q:St->Hp->Prop),Inv X pins σ H s->RelV v u->t v σ H Q ->
   wpAny (model X.prog X.w) X.A (assign target X.env u) (fun _ s'=>∃ σ' H',Inv X pins σ' H' s'/\Q σ' H') X.xe s
def PGs (X:Cx) (ts:List Expr) (t:Xd):Prop :=
 ∀ (pins:List (Addr × Obj)) (s:Shared) (σ:St) (H:Hp) (vs:List V) (us:List Value) (Q:St->Hp->Prop),Inv X pins σ H s->Vals vs us->t vs σ H Q ->
   wpAny (model X.prog X.w) X.A (assignInOrder ((assignEach ts X.env).map (·.2)) us) (fun _ s'=>∃ σ' H',Inv X pins σ' H' s'/\Q σ' H') X.xe s
abbrev Xe:=V->V->V->Hp->(Hp->Prop)->Prop
def Xf (X:Cx) (t:Xe):Prop :=
 ∀ (pins:List (Addr × Obj)) (s:Shared) (σ:St) (H:Hp) (o i v:V) (ov iv u:Value) (Q:Hp->Prop),Inv X pins σ H s->RelV o ov->RelV i iv->RelV v u->t o i v H Q ->
   wpAny (model X.prog X.w) X.A (setItem ov iv u) (fun _ s'=>∃ H',Inv X pins σ H' s'/\Q H') X.xe s
section
variable {X:Cx} {pos:Pos}
def Ce (i:Nat):TG:=fun v σ H Q=>Q (σ.set i (some v)) H
theorem aL {i:Nat} {x:Str} (hN:X.N.Nodup) (hi:X.N[i]?=some x) (hx:Loc X.env.scope x) (hf:X.fn x=true∨X.env.scope.names.lookup x=some .local:=by first | exact .inl rfl | exact .inr rfl | assumption):PG X (.Name x pos) (Ce i):=by
 intro pins s σ H v u Q I r h
 exact wpAny_assign_Name (Ca I hN hi hx r (fun s' I'=>⟨_,H,I',h⟩) hf)
def aeX:Xd:=fun vs σ H Q=>vs=[]/\Q σ H
def aaD (t:TG) (u:Xd):Xd:=fun vs σ H Q=>∃ v r,vs=v :: r/\t v σ H fun σ' H'=>u r σ' H' Q
theorem fX:PGs X [] aeX:=by
 intro pins s σ H vs us Q I r h
 obtain ⟨e,h⟩:=h
 subst e
 cases r
 exact assignInOrder_nil ⟨σ,H,I,h⟩
theorem aU {e:Expr} {es:List Expr} {t:TG} {u:Xd} (h1:PG X e t) (h2:PGs X es u)
   (hs:(assignEach (e :: es) X.env).map (·.2)=assign e X.env :: (assignEach es X.env).map (·.2):=by rfl):PGs X (e :: es) (aaD t u):=by
 intro pins s σ H vs us Q I r h
 obtain ⟨v,vr,e1,h⟩:=h
 subst e1
 cases r with
 | cons r rr =>
   rw [hs]
   refine assignInOrder_cons (cY (h1 pins s σ H _ _ _ I r h) fun _ s1 ⟨σ1,H1,I1,q1⟩=>?_)
   exact h2 pins s1 σ1 H1 _ _ Q I1 rr q1
def aeY (K:PySem.W.Frag) (n:Nat) (t:Xd):TG:=fun v σ H Q=>∃ a xs,v=.ref a/\bW K H a xs/\xs.length=n/\t xs σ H Q
theorem jg {es:List Expr} {k:Nat} {t:Xd} {n:Nat} (hc:X.calm=true) (h:PGs X es t)
   (hn:(assignEach es X.env).length=n:=by rfl) (hst:(assignEach es X.env).findIdx? (·.1)=none:=by rfl):PG X (.Tuple es k pos) (aeY X.K n t):=by
 intro pins s σ H v u Q I r hw
 obtain ⟨a,xs,e1,hq,hl,hw⟩:=hw
 subst e1
 cases r
 obtain ⟨its,rv,ht,hz⟩:=I.tuple hq
 refine assign_Tuple_tuple (I.ok.hd hc) ht (by simp [hn,<- hl,rv.length]) hst fun h' hx=>?_
 have I1:Inv X pins σ H { s with heap:=h' }:=I.kept (t':=s.toks) fun b o e=>hx b o (Nat.ne_of_lt (Heap.lt_size e)) e
 exact h pins _ σ H xs _ Q I1 (by simpa using rv) hw
def aeZ (to ti:TE) (t:Xe):TG:=fun v σ H Q=>to σ H fun o H1=>ti σ H1 fun i H2=>t o i v H2 fun H3=>Q σ H3
theorem Xg {o i:Expr} {to ti:TE} {t:Xe} (ho:PE X o to) (hi:PE X i ti) (hs:Xf X t)
   (ha:∀ v,assign (.Subscript o i pos) X.env v=(do
     let ov <- holding [v] (eval o X.env)
     let iv <- holding [v,ov] (eval i X.env)
     standAt pos
     holding [v,ov,iv] (setItem ov iv v)
     release [v,ov,iv] []):=by intro _; rfl):PG X (.Subscript o i pos) (aeZ to ti t):=by
 intro pins s σ H v u Q I r h
 rw [ha]
 refine wpAny_bind (wpAny_holding (cY (ho pins s σ H _ I h) fun ov s1 ⟨x,H1,I1,r1,q1⟩=>?_))
 refine wpAny_bind (wpAny_holding (cY (hi pins s1 σ H1 _ I1 q1) fun iv s2 ⟨y,H2,I2,r2,q2⟩=>?_))
 refine wpAny_bind (wpAny_standAt (wpAny_bind (wpAny_holding (cY (hs pins s2 σ H2 x y v ov iv u _ I2 r1 r2 r q2) fun _ s3 ⟨H3,I3,q3⟩=>?_))))
 exact wpAny_release ⟨σ,H3,I3,q3⟩
def JM (te:TE) (g:TG):TS:=fun D σ H=>te σ H fun x H1=>g x σ H1 D.nx
theorem uV {tg e:Expr} {te:TE} {g:TG} (he:PE X e te) (hg:PG X tg g) (hs:swapsWithSole [tg] e pos.line X.env=pure false:=by rfl) (hw:swappedStores [tg] e X.env=pure none:=by rfl)
   (h1:(assignEach [tg] X.env).map (·.2)=[assign tg X.env]:=by rfl):PS X (.Assign [tg] e pos) (JM te g):=by
 intro pins s σ H D I h
 refine wpAny_Assign_stores (cY (he pins s σ H _ I h) fun v s1 ⟨x,H1,I1,r1,q1⟩=>?_) hs hw
 rw [h1]
 exact cY (hg pins s1 σ H1 x v _ I1 r1 q1) fun _ s2 q=>q
theorem aR {i:Nat} {x:Str} {e:Expr} {te:TE} {pos':Pos} (hN:X.N.Nodup) (hi:X.N[i]?=some x) (hx:Loc X.env.scope x) (he:PE X e te) (hs:swapsWith e (some (.Name x pos')) pos.line X.env=pure false:=by rfl) (hf:X.fn x=true∨X.env.scope.names.lookup x=some .local:=by first | exact .inl rfl | exact .inr rfl | assumption) :
   PS X (.Assign [.Name x pos'] e pos) (JM te (Ce i)):=by
 intro pins s σ H D I h
 refine wpAny_Assign_Name (cY (he pins s σ H _ I h) fun v s1 ⟨y,H1,I1,r1,q1⟩=>?_) hs
 exact Ca I1 hN hi hx r1 (fun s2 I2=>⟨_,H1,I2,q1⟩) hf
end
section
variable {X:Cx} {pos:Pos}
end
structure It where
 go:Nat->Hp->Prop
 Tg:Nat->Hp->V->Hp->Prop
 stop:Nat->Hp->Prop
def oJ (X:Cx) (pins:List (Addr × Obj)) (H:Hp) (b:Addr):Prop :=
 H b=none/\b≠X.env.locals/\b ∉ X.fs/\(b∈X.ex∨X.s₀.heap.objs.size<=b)/\(∀ x c,X.env.cells.lookup x=some c->c≠b)/\∀ p∈X.pn++pins,p.1≠b
theorem Inv.zU {X:Cx} {pins:List (Addr × Obj)} {σ:St} {H H':Hp} {s:Shared} {b:Addr} (I:Inv X pins σ H s) (hb:s.heap.objs.size<=b) (hn:H' b=none):oJ X pins H' b:=by
 refine ⟨hn,Nat.ne_of_gt (Nat.lt_of_lt_of_le I.lt hb),I.aeR hb,.inr (Nat.le_trans I.sz hb),fun x c e z=>?_,fun p hp z=>?_⟩
 . obtain ⟨v,q⟩:=I.cell x c e
   exact absurd (Nat.lt_of_lt_of_le q.lt (by rw [z]; exact hb)) (Nat.lt_irrefl _)
 . exact absurd (Nat.lt_of_lt_of_le (Heap.lt_size (I.pin p hp).1) (by rw [z]; exact hb)) (Nat.lt_irrefl _)
structure Turn (P:Program) (w:World) (K:PySem.W.Frag) (tg:Expr) (J:It) (fp:List Addr) (it:Addr) (tn:Nat->Heap->Prop):Prop where
 mem:it∈fp
 obj:∀ i h,tn i h->∀ b∈fp,∃ o,h.get? b=some o/\∀ v,o.data≠.cell v
 keep:∀ i h h',tn i h->(∀ b∈fp,∀ o,h.get? b=some o->h'.get? b=some o)->tn i h'
 item:∀ (X:Cx),X.prog=P->X.w=w->X.K=K->X.calm=true->∀ (i:Nat) (pins:List (Addr × Obj)) (s:Shared) (σ:St) (H:Hp) (E:Value->Shared->Prop),Inv X pins σ H s->(∀ b∈fp,oJ X pins H b)->tn i s.heap->J.go i H ->
   wpAny (model P w) X.A (pyNext (.ref it)) (fun r s1=>∃ u,r=some u /\
     wpAny (model P w) X.A (letOwnedTupleGo tg (.ref it) u) (fun _ s2=>∃ x H',Inv X pins σ H' s2/\RelV x u/\J.Tg i H x H'/\tn (i+1) s2.heap/\∀ b∈fp,H' b=none) E s1) E s
 done:∀ (X:Cx),X.prog=P->X.w=w->X.K=K->X.calm=true->∀ (i:Nat) (pins:List (Addr × Obj)) (s:Shared) (σ:St) (H:Hp) (E:Value->Shared->Prop),Inv X pins σ H s->(∀ b∈fp,oJ X pins H b)->tn i s.heap->J.stop i H ->
   wpAny (model P w) X.A (pyNext (.ref it)) (fun r s1=>r=none/\Inv X pins σ H s1) E s
 self:∀ (A:Around) (i:Nat) (s:Shared) (Q:Value->Shared->Prop) (E:Value->Shared->Prop),tn i s.heap->Q (.ref it) s->wpAny (model P w) A (pyIter (.ref it)) Q E s
abbrev TI:=St->Hp->(It->Hp->Prop)->Prop
def PIE (X:Cx) (pins:List (Addr × Obj)) (σ:St) (tg:Expr) (R:It->Hp->Prop) (itv:Value) (s2:Shared):Prop :=
 ∃ (it:Addr) (fp:List Addr) (tn:Nat->Heap->Prop) (J:It) (H':Hp),itv=.ref it/\Inv X pins σ H' s2/\Turn X.prog X.w X.K tg J fp it tn/\tn 0 s2.heap/\(∀ b∈fp,oJ X pins H' b)/\R J H'
def PI (X:Cx) (tg iter:Expr) (wi:TI):Prop :=
 ∀ (pins:List (Addr × Obj)) (s:Shared) (σ:St) (H:Hp) (R:It->Hp->Prop),Inv X pins σ H s->wi σ H R ->
   wpAny (model X.prog X.w) X.A (eval iter X.env) (fun v s1=>wpAny (model X.prog X.w) X.A (pyIter v) (PIE X pins σ tg R) X.xe s1) X.xe s
theorem sW {M:Model} {A:Around} {E:Value->Shared->Prop} {s:Shared} {tg:Expr} {it:Addr} {u:Value} {o:Obj} {n:String} {vs:Array Value} {Q:Unit->Shared->Prop} (ho:s.heap.get? it=some o) (hc:o.cls=.type n) (hd:o.data=.fields vs)
   (hn:["enumerate","zip","dict_itemiterator","dict_reverseitemiterator","odict_iterator","itertools.zip_longest","itertools.pairwise"].contains n=false) (hQ:Q () s):wpAny M A (letOwnedTupleGo tg (.ref it) u) Q E s:=by
 unfold letOwnedTupleGo
 cases tg <;> first
   | exact wpAny_pure hQ
   | (cases u <;> first
       | exact wpAny_pure hQ
       | (refine wpAny_bind (wpAny_load ho ?_)
          rw [hc,hd]
          show wpAny M A (if (["enumerate","zip","dict_itemiterator","dict_reverseitemiterator","odict_iterator","itertools.zip_longest","itertools.pairwise"].contains n && vs[0]? == some (rawInt _))=true then _ else _) Q E s
          rw [if_neg (by intro h; rw [hn,Bool.false_and] at h; cases h)]
          exact wpAny_pure hQ))
def Xh (K:PySem.W.Frag) (a:Addr):It :=
 ⟨fun i H=>∃ xs x,cT K H a xs/\xs[i]?=some x,fun i H x H'=>H'=H/\∀ xs,cT K H a xs->xs[i]?=some x,fun i H=>∃ xs,cT K H a xs/\xs.length<=i⟩
def R7 (K:PySem.W.Frag) (a:Addr):It :=
 ⟨fun i H=>∃ xs x,bW K H a xs/\xs[i]?=some x,fun i H x H'=>H'=H/\∀ xs,bW K H a xs->xs[i]?=some x,fun i H=>∃ xs,bW K H a xs/\xs.length<=i⟩
def Xi (lo:Int) (n:Nat):It:=⟨fun i _=>i<n,fun i H x H'=>H'=H/\x=.int (lo+i),fun i _=>n<=i⟩
theorem JN {P:Program} {w:World} {K:PySem.W.Frag} {tg:Expr} (a it:Addr):Turn P w K tg (Xh K a) [it] it (fun i h=>h.IsListIter it a i) where
 mem:=by simp
 obj:=fun i h st b hb=>by
   have e:b=it:=by simpa using hb
   subst e
   obtain ⟨o,e,c,d⟩:=st
   exact ⟨o,e,fun v z=>by rw [d] at z; cases z⟩
 keep:=fun i h h' st k=>st.at fun o e=>k it (by simp) o e
 item:=by
   intro X hP hw hK hc i pins s σ H E I hf st hg
   subst hP hw hK
   obtain ⟨xs,x,hq,hx⟩:=hg
   obtain ⟨its,rv,p,hz⟩:=I.list hq
   obtain ⟨u,hu,ru⟩:=rv.get hx
   obtain ⟨f0,f1,f2,f3,f4,f5⟩:=hf it (by simp)
   refine wpAny_pyNext_list_item st p.isList (x:=u) (by simpa using hu) fun h' st' sb=>?_
   have I1:Inv X pins σ H { s with heap:=h' }:=I.turned (t':=s.toks) (fun b o hb e=>(sb.2 b hb).trans e) f0 f1 f3 f4 f5
   obtain ⟨o,e,c,d⟩:=id st'
   exact ⟨u,rfl,sW (s:={ s with heap:=h' }) e c d (by decide) ⟨x,H,I1,ru,⟨rfl,fun ys hy=>by rw [I.Nh hy hq]; exact hx⟩,st',fun b hb=>(hf b hb).1⟩⟩
 done:=by
   intro X hP hw hK hc i pins s σ H E I hf st hg
   subst hP hw hK
   obtain ⟨xs,hq,hx⟩:=hg
   obtain ⟨its,rv,p,hz⟩:=I.list hq
   obtain ⟨f0,f1,f2,f3,f4,f5⟩:=hf it (by simp)
   have hl:=rv.length
   exact wpAny_pyNext_list_end (I.ok.hd hc) st p.isList (by simp; omega) fun h' eb=>⟨rfl,I.turned (t':=s.toks) (fun b o hb e=>eb b o hb e) f0 f1 f3 f4 f5⟩
 self:=fun _ _ _ _ _ st h=>wpAny_pyIter_listiter st h
theorem Em {P:Program} {w:World} {K:PySem.W.Frag} {tg:Expr} (a it:Addr):Turn P w K tg (R7 K a) [it] it (fun i h=>h.IsTupleIter it a i) where
 mem:=by simp
 obj:=fun i h st b hb=>by
   have e:b=it:=by simpa using hb
   subst e
   obtain ⟨o,e,c,d⟩:=st
   exact ⟨o,e,fun v z=>by rw [d] at z; cases z⟩
 keep:=fun i h h' st k=>st.at fun o e=>k it (by simp) o e
 item:=by
   intro X hP hw hK hc i pins s σ H E I hf st hg
   subst hP hw hK
   obtain ⟨xs,x,hq,hx⟩:=hg
   obtain ⟨its,rv,p,hz⟩:=I.tuple hq
   obtain ⟨u,hu,ru⟩:=rv.get hx
   obtain ⟨f0,f1,f2,f3,f4,f5⟩:=hf it (by simp)
   refine wpAny_pyNext_tuple_item st (show s.heap.IsTuple a its.toArray from p) (x:=u) (by simpa using hu) fun h' st' sb=>?_
   have I1:Inv X pins σ H { s with heap:=h' }:=I.turned (t':=s.toks) (fun b o hb e=>(sb.2 b hb).trans e) f0 f1 f3 f4 f5
   obtain ⟨o,e,c,d⟩:=id st'
   exact ⟨u,rfl,sW (s:={ s with heap:=h' }) e c d (by decide) ⟨x,H,I1,ru,⟨rfl,fun ys hy=>by rw [I.JL hy hq]; exact hx⟩,st',fun b hb=>(hf b hb).1⟩⟩
 done:=by
   intro X hP hw hK hc i pins s σ H E I hf st hg
   subst hP hw hK
   obtain ⟨xs,hq,hx⟩:=hg
   obtain ⟨its,rv,p,hz⟩:=I.tuple hq
   obtain ⟨f0,f1,f2,f3,f4,f5⟩:=hf it (by simp)
   have hl:=rv.length
   exact wpAny_pyNext_tuple_end (I.ok.hd hc) st (show s.heap.IsTuple a its.toArray from p) (by simp; omega) fun h' eb=>⟨rfl,I.turned (t':=s.toks) (fun b o hb e=>eb b o hb e) f0 f1 f3 f4 f5⟩
 self:=fun _ _ _ _ _ st h=>wpAny_pyIter_tupleiter st h
theorem En {P:Program} {w:World} {K:PySem.W.Frag} {tg:Expr} (it:Addr) (lo:Int) (n:Nat):Turn P w K tg (Xi lo n) [it] it (fun i h=>IsRangeIter h it (lo+(i:Nat) * 1) ((n:Int)-(i:Nat)) 1) where
 mem:=by simp
 obj:=fun i h st b hb=>by
   have e:b=it:=by simpa using hb
   subst e
   exact ⟨_,st,fun v z=>by
     have z':Data.fields _=Data.cell v:=z
     cases z'⟩
 keep:=fun i h h' st k=>k it (by simp) _ st
 item:=by
   intro X hP hw hK hc i pins s σ H E I hf st hg
   subst hP hw hK
   obtain ⟨f0,f1,f2,f3,f4,f5⟩:=hf it (by simp)
   have W:=Walks.range (prog:=X.prog) (w:=X.w) (I.ok.hd hc) it lo 1 n
   refine W.item i s _ _ hg st fun v h' tk hv st' kk=>?_
   obtain ⟨t,rfl⟩:=hv
   have I1:Inv X pins σ H { s with heap:=h',toks:=tk }:=I.turned (fun b o hb e=>kk b o (by simpa using hb) e) f0 f1 f3 f4 f5
   refine ⟨_,rfl,sW (s:={ s with heap:=h',toks:=tk }) (n:="range_iterator") st' rfl rfl (by decide) ⟨.int (lo+i),H,I1,⟨t,?_⟩,⟨rfl,rfl⟩,st',fun b hb=>(hf b hb).1⟩⟩
   rw [Int.mul_one]
 done:=by
   intro X hP hw hK hc i pins s σ H E I hf st hg
   subst hP hw hK
   obtain ⟨f0,f1,f2,f3,f4,f5⟩:=hf it (by simp)
   exact wpAny_pyNext_range_end (I.ok.hd hc) st (by have:n<=i:=hg; omega) fun h' eb=>⟨rfl,I.turned (t':=s.toks) (fun b o hb e=>eb b o hb e) f0 f1 f3 f4 f5⟩
 self:=fun _ _ _ _ _ st h=>wpAny_pyIter_rangeiter st h
end L2
namespace L2
open PySem PySem.Spec PyProof.Rows
section
variable {X:Cx} {tg:Expr}
def aaE (K:PySem.W.Frag) (tl:TE):TI:=fun σ H R=>tl σ H fun x H1=>∃ a,x=.ref a/\(∃ xs,cT K H1 a xs)/\R (Xh K a) H1
def ae0 (K:PySem.W.Frag) (tl:TE):TI:=fun σ H R=>tl σ H fun x H1=>∃ a,x=.ref a/\(∃ xs,bW K H1 a xs)/\R (R7 K a) H1
theorem eG {l:Expr} {tl:TE} (hl:PE X l tl):PI X tg l (aaE X.K tl):=by
 intro pins s σ H R I h
 refine cY (hl pins s σ H _ I h) fun v s1 ⟨x,H1,I1,r1,q1⟩=>?_
 obtain ⟨a,e,⟨xs,hq⟩,q⟩:=q1
 subst e
 cases r1
 obtain ⟨its,rv,p,hz⟩:=I1.list hq
 refine wpAny_pyIter_list p.isList ?_
 refine ⟨s1.heap.objs.size,[s1.heap.objs.size],_,_,H1,rfl,I1.kept (t':=s1.toks) fun b o e=>Heap.get?_push_of_some _ e,JN a _,⟨_,Heap.get?_push_size _ rfl,rfl,rfl⟩,fun b hb=>?_,q⟩
 have e:b=s1.heap.objs.size:=by simpa using hb
 subst e
 exact I1.zU (Nat.le_refl _) (I1.hok.fresh (Nat.le_refl _))
theorem jh {l:Expr} {tl:TE} (hl:PE X l tl):PI X tg l (ae0 X.K tl):=by
 intro pins s σ H R I h
 refine cY (hl pins s σ H _ I h) fun v s1 ⟨x,H1,I1,r1,q1⟩=>?_
 obtain ⟨a,e,⟨xs,hq⟩,q⟩:=q1
 subst e
 cases r1
 obtain ⟨its,rv,p,hz⟩:=I1.tuple hq
 refine wpAny_pyIter_tuple (show s1.heap.IsTuple a its.toArray from p) ?_
 refine ⟨s1.heap.objs.size,[s1.heap.objs.size],_,_,H1,rfl,I1.kept (t':=s1.toks) fun b o e=>Heap.get?_push_of_some _ e,Em a _,⟨_,Heap.get?_push_size _ rfl,rfl,rfl⟩,fun b hb=>?_,q⟩
 have e:b=s1.heap.objs.size:=by simpa using hb
 subst e
 exact I1.zU (Nat.le_refl _) (I1.hok.fresh (Nat.le_refl _))
theorem Nj {pins:List (Addr × Obj)} {σ:St} {H:Hp} {s:Shared} {R:It->Hp->Prop} {E:Value->Shared->Prop} {lo hi:Int} {t u v:Tok} {tk:Nat} (I:Inv X pins σ H s) (h1:-(2 ^ 62)<=lo) (h2:lo<2 ^ 62) (h3:-(2 ^ 62)<=hi) (h4:hi<2 ^ 62)
   (q:R (Xi lo (hi-lo).toNat) H):wpAny (model X.prog X.w) X.A (pyIter (.ref s.heap.objs.size)) (PIE X pins σ tg R) E { s with heap:=s.heap.push { cls:=.type "range",data:=.fields #[.int lo t,.int hi u,.int 1 v] },toks:=tk }:=by
 refine wpAny_pyIter_range (IsRange.new ..) (small_one h1 h2 h3 h4) ?_
 have I1:Inv X pins σ H { s with heap:=s.heap.push { cls:=.type "range",data:=.fields #[.int lo t,.int hi u,.int 1 v] },toks:=tk }:=I.kept fun b o e=>Heap.get?_push_of_some _ e
 refine ⟨(s.heap.push { cls:=.type "range",data:=.fields #[.int lo t,.int hi u,.int 1 v] }).objs.size,[(s.heap.push { cls:=.type "range",data:=.fields #[.int lo t,.int hi u,.int 1 v] }).objs.size],_,_,H,rfl,
   I1.kept (t':=tk) fun b o e=>Heap.get?_push_of_some _ e,En _ lo (hi-lo).toNat,?_,fun b hb=>?_,q⟩
 . have e1:lo+((0:Nat):Int) * 1=lo:=by simp
   have e2:(((hi-lo).toNat:Nat):Int)-((0:Nat):Int)=Builtin.Range.rangeSize lo hi 1:=by rw [rangeSize_one]; split <;> omega
   show IsRangeIter _ _ (lo+((0:Nat):Int) * 1) ((((hi-lo).toNat:Nat):Int)-((0:Nat):Int)) 1
   rw [e1,e2]
   exact Heap.get?_push_size _ rfl
 . have e:b=(s.heap.push { cls:=.type "range",data:=.fields #[.int lo t,.int hi u,.int 1 v] }).objs.size:=by simpa using hb
   subst e
   exact I1.zU (Nat.le_refl _) (I1.hok.fresh (Nat.le_refl _))
def aaF (ta:TA):TI:=fun σ H R=>ta σ H fun vs H1=>∃ j:Int,vs=[.int j]/\-(2 ^ 62)<=j/\j<2 ^ 62/\R (Xi 0 j.toNat) H1
theorem gA {a:Expr} {ta:TA} {p pos:Pos} (hg:Gl X "range") (hm:X.mg "range" = none) (ha:PA X [a] ta) (hs:starEach [a] X.env=[(false,eval a X.env)]:=by rfl):PI X tg (.Call (.Name "range" p) [a] [] pos) (aaF ta):=by
 intro pins s σ H R I h
 refine Call_ (uU I hg hm boot_range (PyProof.Rows.callWith_type1 (cY (ha pos pins s σ H _ I h) fun us s1 ⟨vs,H1,I1,r1,q1⟩=>?_) hs rfl))
 obtain ⟨j,e,q1,q2,q⟩:=q1
 subst e
 cases r1 with
 | cons r rr =>
   cases rr
   obtain ⟨t,rfl⟩:=r
   exact call_range_1 (Nj I1 (by omega) (by omega) q1 q2 (by simpa using q))
def ae1 (wi:TI) (g:TG) (tb:TS):TS:=fun D σ H=>wi σ H fun J H1=>∃ W:Nat->Nat->St->Hp->Prop,(∃ m,W 0 m σ H1)/\∀ i m σ H,W i m σ H ->
 (J.stop i H/\D.nx σ H)∨(J.go i H/\∃ N:St->Hp->Prop,(∀ σ' H',N σ' H'->∃ m',m'<m/\W (i+1) m' σ' H')/\∀ x H',J.Tg i H x H'->g x σ H' fun σ2 H2=>tb { D with nx:=N,ct:=N,bk:=D.nx } σ2 H2)
def uW (fp:List Addr) (h:Heap):List (Addr × Obj):=fp.filterMap fun b=>(h.get? b).map fun o=>(b,o)
theorem lM {fp:List Addr} {h:Heap} {b:Addr} {o:Obj} (hb:b∈fp) (e:h.get? b=some o):(b,o)∈uW fp h:=List.mem_filterMap.mpr ⟨b,hb,by rw [e]; rfl⟩
theorem JQ {fp:List Addr} {h:Heap} {p:Addr × Obj} (hp:p∈uW fp h):p.1∈fp/\h.get? p.1=some p.2:=by
 obtain ⟨b,hb,e⟩:=List.mem_filterMap.mp hp
 cases q:h.get? b with
 | none=>rw [q] at e; cases e
 | some o =>
   rw [q] at e
   have e':(b,o)=p:=Option.some.inj e
   subst e'
   exact ⟨hb,q⟩
theorem Inv.pinned {pins:List (Addr × Obj)} {σ:St} {H:Hp} {s:Shared} {fp:List Addr} (I:Inv X pins σ H s) (hf:∀ b∈fp,oJ X pins H b) (ho:∀ b∈fp,∃ o,s.heap.get? b=some o/\∀ v,o.data≠.cell v):Inv X (pins++uW fp s.heap) σ H s :=
 I.HB fun p hp=>(List.mem_append.mp hp).elim (fun z=>I.pin p (List.mem_append_right _ z)) fun z=>by
   obtain ⟨hb,e⟩:=JQ z
   obtain ⟨f0,f1,f2,_⟩:=hf p.1 hb
   obtain ⟨o,e',d⟩:=ho p.1 hb
   rw [e] at e'; cases e'
   exact ⟨e,f0,f1,f2,d⟩
theorem Inv.qb {pins pl:List (Addr × Obj)} {σ:St} {H:Hp} {s:Shared} (I:Inv X (pins++pl) σ H s):Inv X pins σ H s:=I.HB fun p hp=>I.pin p (List.mem_append_right _ (List.mem_append_left _ hp))
theorem fZ {iter:Expr} {body:List Stmt} {wi:TI} {g:TG} {tb:TS} {pos:Pos} (hp:PassesOwn (model X.prog X.w) X.A X.env X.xe) (hc:X.calm=true) (hi:PI X tg iter wi) (hg:PG X tg g) (hb:JK X body tb)
   (hs:∀ x,foldedSetIterable iter X.env x=pure x:=by intro _; rfl):PS X (.For tg iter body [] pos) (ae1 wi g tb):=by
 intro pins s σ H D I h
 refine wpAny_For (cY (hi pins s σ H _ I h) fun v s1 h1=>cY h1 fun itv s2 h2=>?_) hs
 obtain ⟨it,fp,tn,J,H2,e,I2,T,st2,f2,W,⟨m0,w0⟩,turn⟩:=h2
 subst e
 -- what stays true of the iterator's objects through the loop
 have stat:∀ {H':Hp},(∀ b∈fp,H' b=none)->∀ b∈fp,oJ X pins H' b:=fun hn b hb=>⟨hn b hb,(f2 b hb).2⟩
 refine codeAny_forLoop_any (fun n s'=>∃ i σ' H',Inv X pins σ' H' s'/\tn i s'.heap/\(∀ b∈fp,H' b=none)/\W i n σ' H') ?_ m0 ⟨0,σ,H2,I2,st2,fun b hb=>(f2 b hb).1,w0⟩
 rintro n s3 ⟨i,σ3,H3,I3,st3,fr3,w3⟩
 rcases turn i n σ3 H3 w3 with ⟨stop,qn⟩ | ⟨go,N,hN,step⟩
 . refine wpAny_passesOwn hp (cY (T.done X rfl rfl rfl hc i pins s3 σ3 H3 X.xe I3 (stat fr3) st3 stop) fun r s4 ⟨hr,I4⟩=>?_)
   subst hr
   exact wpAny_execs_nil ⟨σ3,H3,I4,qn⟩
 . refine wpAny_passesOwn hp (cY (T.item X rfl rfl rfl hc i pins s3 σ3 H3 X.xe I3 (stat fr3) st3 go) fun r s4 ⟨u,hr,h4⟩=>?_)
   subst hr
   refine wpAny_passesOwn hp (cY h4 fun _ s5 ⟨x,H5,I5,r5,y5,st5,fr5⟩=>?_)
   have I5':=I5.pinned (stat fr5) (T.obj _ _ st5)
   refine wpAny_passesOwn hp (cY (hg _ s5 σ3 H5 x u _ I5' r5 (step x H5 y5)) fun _ s6 ⟨σ6,H6,I6,q6⟩=>?_)
   refine wpAny_passesOwn hp (cY (hb _ s6 σ6 H6 _ I6 q6) fun f s7 q7=>?_)
   have again:∀ {σ7:St} {H7:Hp},Inv X (pins++uW fp s5.heap) σ7 H7 s7->N σ7 H7->∃ m,m<n/\∃ i σ' H',Inv X pins σ' H' s7/\tn i s7.heap/\(∀ b∈fp,H' b=none)/\W i m σ' H':=fun {σ7 H7} I7 n7=>by
     obtain ⟨m',hm,w7⟩:=hN σ7 H7 n7
     refine ⟨m',hm,i+1,σ7,H7,I7.qb,T.keep _ _ _ st5 fun b hb o e=>(I7.pin (b,o) (List.mem_append_right _ (List.mem_append_right _ (lM hb e)))).1,fun b hb=>?_,w7⟩
     obtain ⟨o,e,d⟩:=T.obj _ _ st5 b hb
     exact (I7.pin (b,o) (List.mem_append_right _ (List.mem_append_right _ (lM hb e)))).2.1
   cases f with
   | next=>obtain ⟨σ7,H7,I7,n7⟩:=q7; exact again I7 n7
   | cont=>obtain ⟨σ7,H7,I7,n7⟩:=q7; exact again I7 n7
   | brk=>obtain ⟨σ7,H7,I7,q7⟩:=q7; exact ⟨σ7,H7,I7.qb,q7⟩
   | ret v=>obtain ⟨x7,σ7,H7,I7,r7,q7⟩:=q7; exact ⟨x7,σ7,H7,I7.qb,r7,q7⟩
end
theorem qd {K:PySem.W.Frag} {a:Addr} {xs:List V} {g:TG} {tb:TS} {D:Ends} {σ:St} {H:Hp} (Pv:Nat->St->Hp->Prop) (h0:Pv 0 σ H) (hl:∀ i σ H,i<=xs.length->Pv i σ H->cT K H a xs)
   (hs:∀ i x σ H,xs[i]?=some x->Pv i σ H->g x σ H fun σ2 H2=>tb { D with nx:=Pv (i+1),ct:=Pv (i+1),bk:=D.nx } σ2 H2) (hd:∀ σ H,Pv xs.length σ H->D.nx σ H) :
   ∃ W:Nat->Nat->St->Hp->Prop,(∃ m,W 0 m σ H)/\∀ i m σ H,W i m σ H ->
     ((Xh K a).stop i H/\D.nx σ H)∨((Xh K a).go i H/\∃ N:St->Hp->Prop,(∀ σ' H',N σ' H'->∃ m',m'<m/\W (i+1) m' σ' H')/\∀ x H',(Xh K a).Tg i H x H'->g x σ H' fun σ2 H2=>tb { D with nx:=N,ct:=N,bk:=D.nx } σ2 H2):=by
 refine ⟨fun i m σ H=>m=xs.length-i/\i<=xs.length/\Pv i σ H,⟨xs.length,by simp,Nat.zero_le _,h0⟩,?_⟩
 rintro i m σ H ⟨rfl,hi,p⟩
 have q:=hl i σ H hi p
 by_cases hlt:i<xs.length
 . refine .inr ⟨⟨xs,xs[i],q,by simp [hlt]⟩,Pv (i+1),fun σ' H' p'=>⟨xs.length-(i+1),by omega,rfl,hlt,p'⟩,fun x H' y=>?_⟩
   obtain ⟨e,y⟩:=y
   subst e
   exact hs i x σ _ (y xs q) p
 . have e:i=xs.length:=by omega
   subst e
   exact .inl ⟨⟨xs,q,Nat.le_refl _⟩,hd σ H p⟩
theorem uz {K:PySem.W.Frag} {a:Addr} {xs:List V} {g:TG} {tb:TS} {D:Ends} {σ:St} {H:Hp} (Pv:Nat->St->Hp->Prop) (h0:Pv 0 σ H) (hl:∀ i σ H,i<=xs.length->Pv i σ H->bW K H a xs)
   (hs:∀ i x σ H,xs[i]?=some x->Pv i σ H->g x σ H fun σ2 H2=>tb { D with nx:=Pv (i+1),ct:=Pv (i+1),bk:=D.nx } σ2 H2) (hd:∀ σ H,Pv xs.length σ H->D.nx σ H) :
   ∃ W:Nat->Nat->St->Hp->Prop,(∃ m,W 0 m σ H)/\∀ i m σ H,W i m σ H ->
     ((R7 K a).stop i H/\D.nx σ H)∨((R7 K a).go i H/\∃ N:St->Hp->Prop,(∀ σ' H',N σ' H'->∃ m',m'<m/\W (i+1) m' σ' H')/\∀ x H',(R7 K a).Tg i H x H'->g x σ H' fun σ2 H2=>tb { D with nx:=N,ct:=N,bk:=D.nx } σ2 H2):=by
 refine ⟨fun i m σ H=>m=xs.length-i/\i<=xs.length/\Pv i σ H,⟨xs.length,by simp,Nat.zero_le _,h0⟩,?_⟩
 rintro i m σ H ⟨rfl,hi,p⟩
 have q:=hl i σ H hi p
 by_cases hlt:i<xs.length
 . refine .inr ⟨⟨xs,xs[i],q,by simp [hlt]⟩,Pv (i+1),fun σ' H' p'=>⟨xs.length-(i+1),by omega,rfl,hlt,p'⟩,fun x H' y=>?_⟩
   obtain ⟨e,y⟩:=y
   subst e
   exact hs i x σ _ (y xs q) p
 . have e:i=xs.length:=by omega
   subst e
   exact .inl ⟨⟨xs,q,Nat.le_refl _⟩,hd σ H p⟩
theorem j9 {lo:Int} {n:Nat} {g:TG} {tb:TS} {D:Ends} {σ:St} {H:Hp} (Pv:Nat->St->Hp->Prop) (h0:Pv 0 σ H)
   (hs:∀ i σ H,i<n->Pv i σ H->g (.int (lo+i)) σ H fun σ2 H2=>tb { D with nx:=Pv (i+1),ct:=Pv (i+1),bk:=D.nx } σ2 H2) (hd:∀ σ H,Pv n σ H->D.nx σ H) :
   ∃ W:Nat->Nat->St->Hp->Prop,(∃ m,W 0 m σ H)/\∀ i m σ H,W i m σ H ->
     ((Xi lo n).stop i H/\D.nx σ H)∨((Xi lo n).go i H/\∃ N:St->Hp->Prop,(∀ σ' H',N σ' H'->∃ m',m'<m/\W (i+1) m' σ' H')/\∀ x H',(Xi lo n).Tg i H x H'->g x σ H' fun σ2 H2=>tb { D with nx:=N,ct:=N,bk:=D.nx } σ2 H2):=by
 refine ⟨fun i m σ H=>m=n-i/\i<=n/\Pv i σ H,⟨n,by simp,Nat.zero_le _,h0⟩,?_⟩
 rintro i m σ H ⟨rfl,hi,p⟩
 by_cases hlt:i<n
 . refine .inr ⟨hlt,Pv (i+1),fun σ' H' p'=>⟨n-(i+1),by omega,rfl,hlt,p'⟩,fun x H' y=>?_⟩
   obtain ⟨e,y⟩:=y
   subst e y
   exact hs i σ _ hlt p
 . have e:i=n:=by omega
   subst e
   exact .inl ⟨Nat.le_refl _,hd σ H p⟩
end L2
namespace L2
open PySem PySem.Spec PyProof.Rows
abbrev R2:=V->V->Hp->VK->Prop
def gW (X:Cx) (f:Value->Value->Sem Value) (r:R2):Prop :=
 ∀ (pins:List (Addr × Obj)) (s:Shared) (σ:St) (H:Hp) (x y:V) (v u:Value) (Q:VK),Inv X pins σ H s->RelV x v->RelV y u->r x y H Q ->
   wpAny (model X.prog X.w) X.A (f v u) (EP X pins σ Q) X.xe s
def UnR (X:Cx) (f:Value->Sem Value) (r:V->Hp->VK->Prop):Prop :=
 ∀ (pins:List (Addr × Obj)) (s:Shared) (σ:St) (H:Hp) (x:V) (v:Value) (Q:VK),Inv X pins σ H s->RelV x v->r x H Q ->
   wpAny (model X.prog X.w) X.A (f v) (EP X pins σ Q) X.xe s
def dM (X:Cx) (f:Value) (r:List V->Hp->VK->Prop):Prop :=
 ∀ (pins:List (Addr × Obj)) (s:Shared) (σ:St) (H:Hp) (xs:List V) (us:List Value) (Q:VK),Inv X pins σ H s->Vals xs us->r xs H Q ->
   wpAny (model X.prog X.w) X.A (call f us) (EP X pins σ Q) X.xe s
def Z2 (r:R2) (ta tb:TE):TE:=fun σ H Q=>ta σ H fun x H1=>tb σ H1 fun y H2=>r x y H2 Q
def tUn (r:V->Hp->VK->Prop) (ta:TE):TE:=fun σ H Q=>ta σ H fun x H1=>r x H1 Q
def rI (C:Int->Int->Prop) (g:Int->Int->V):R2:=fun x y H Q=>∃ i j,x=.int i/\y=.int j/\C i j/\Q (g i j) H
def R8 (g:Int->Int->V):R2:=fun x y H Q=>∃ i j,x=.int i/\y=.int j/\Q (g i j) H
section
variable {X:Cx} {a b c:Expr} {ta tb tc:TE} {pos:Pos}
theorem Xj (ha:PE X a ta) (hb:PE X b tb) {pins:List (Addr × Obj)} {s:Shared} {σ:St} {H:Hp} {R:V->V->Hp->Prop} (I:Inv X pins σ H s)
   (h:ta σ H fun x H1=>tb σ H1 fun y H2=>R x y H2) {Q:Value->Shared->Prop} {f:Value->Value->Sem Value}
   (hf:∀ v u s2 x y H2,Inv X pins σ H2 s2->RelV x v->RelV y u->R x y H2->wpAny (model X.prog X.w) X.A (f v u) Q X.xe s2) :
   wpAny (model X.prog X.w) X.A (eval a X.env) (fun v s₁=>wpAny (model X.prog X.w) X.A (eval b X.env) (fun u s₂=>wpAny (model X.prog X.w) X.A (f v u) Q X.xe s₂) X.xe s₁) X.xe s:=by
 refine cY (ha pins s σ H _ I h) fun v s1 ⟨x,H1,I1,r1,q1⟩=>?_
 refine cY (hb pins s1 σ H1 _ I1 q1) fun u s2 ⟨y,H2,I2,r2,q2⟩=>?_
 exact hf v u s2 x y H2 I2 r1 r2 q2
theorem bA {op:Operator} {r:R2} (ho:gW X (binaryOp op) r) (ha:PE X a ta) (hb:PE X b tb):PE X (.BinOp a op b pos) (Z2 r ta tb):=by
 intro pins s σ H Q I h
 exact wpAny_BinOp (Xj ha hb I h fun v u s2 x y H2 I2 rx ry q=>ho pins s2 σ H2 x y v u Q I2 rx ry q)
theorem Wd {op:UnaryOp} {r:V->Hp->VK->Prop} (ho:UnR X (unaryOp op) r) (ha:PE X a ta):PE X (.UnaryOp op a pos) (tUn r ta):=by
 intro pins s σ H Q I h
 exact UnaryOp_ (cY (ha pins s σ H _ I h) fun v s1 ⟨x,H1,I1,r1,q1⟩=>ho pins s1 σ H1 x v Q I1 r1 q1)
theorem opI {f:Value->Value->Sem Value} {C:Int->Int->Prop} {g:Int->Int->Int}
   (rule:∀ (i j:Int) (t u:Tok) (s:Shared) (Q:Value->Shared->Prop) (E:Value->Shared->Prop),C i j->Q (.int (g i j) s.toks) { s with toks:=s.toks+1 }->wpAny (model X.prog X.w) X.A (f (.int i t) (.int j u)) Q E s) :
   gW X f (rI C fun i j=>.int (g i j)):=by
 intro pins s σ H x y v u Q I rx ry h
 obtain ⟨i,j,rfl,rfl,hc,q⟩:=h
 obtain ⟨t,rfl⟩:=rx
 obtain ⟨t',rfl⟩:=ry
 exact rule i j t t' s _ _ hc ⟨.int (g i j),H,I.tok _,⟨_,rfl⟩,q⟩
theorem aaH {f:Value->Value->Sem Value} {g:Int->Int->Int}
   (rule:∀ (i j:Int) (t u:Tok) (s:Shared) (Q:Value->Shared->Prop) (E:Value->Shared->Prop),Q (.int (g i j) s.toks) { s with toks:=s.toks+1 }->wpAny (model X.prog X.w) X.A (f (.int i t) (.int j u)) Q E s) :
   gW X f (R8 fun i j=>.int (g i j)):=by
 intro pins s σ H x y v u Q I rx ry h
 obtain ⟨i,j,rfl,rfl,q⟩:=h
 obtain ⟨t,rfl⟩:=rx
 obtain ⟨t',rfl⟩:=ry
 exact rule i j t t' s _ _ ⟨.int (g i j),H,I.tok _,⟨_,rfl⟩,q⟩
theorem Nk {f:Value->Value->Sem Value} {g:Int->Int->Bool}
   (rule:∀ (i j:Int) (t u:Tok) (s:Shared) (Q:Value->Shared->Prop) (E:Value->Shared->Prop),Q (.bool (g i j)) s->wpAny (model X.prog X.w) X.A (f (.int i t) (.int j u)) Q E s) :
   gW X f (R8 fun i j=>.bl (g i j)):=by
 intro pins s σ H x y v u Q I rx ry h
 obtain ⟨i,j,rfl,rfl,q⟩:=h
 obtain ⟨t,rfl⟩:=rx
 obtain ⟨t',rfl⟩:=ry
 exact rule i j t t' s _ _ ⟨.bl (g i j),H,I,rfl,q⟩
def ae3 (i j:Int):Prop:=0<j/\j<1073741824
def aaI (i j:Int):Prop:=0<=j/\j<=1000000/\i.natAbs<2 ^ 64
def Ti (i j:Int):Prop:=(-(2 ^ 64)<i/\i<2 ^ 64)∨(-(2 ^ 64)<j/\j<2 ^ 64)
theorem Ti.ok {i j:Int} (h:Ti i j):IntMulOk i j:=by
 rcases h with ⟨h1,h2⟩ | ⟨h1,h2⟩
 . exact .of_left (intBits_le_64 h1 h2)
 . exact .of_right (intBits_le_64 h1 h2)
theorem Xk:gW X (binaryOp .Add) (R8 fun i j=>.int (i+j)):=aaH fun _ _ _ _ _ _ _ q=>add_int q
theorem Xl:gW X (binaryOp .Sub) (R8 fun i j=>.int (i-j)):=aaH fun _ _ _ _ _ _ _ q=>sub_int q
theorem Xm:gW X (binaryOp .Mult) (rI Ti fun i j=>.int (i * j)):=opI fun _ _ _ _ _ _ _ hc q=>mul_int q hc.ok
theorem Xn:gW X (binaryOp .Mod) (rI (fun _ j=>0<j) fun i j=>.int (i % j)):=opI fun i j _ _ _ _ _ hc q=>by
 have h1:(0:Int)<j:=hc
 exact mod_int' (by omega) (by rw [Int.fmod_eq_emod_of_nonneg i (by omega)]; exact q)
theorem Xo:gW X (binaryOp .Pow) (rI aaI fun i j=>.int (i ^ j.toNat)):=opI fun _ _ _ _ _ _ _ hc q=>pow_int_small hc.1 hc.2.1 hc.2.2 q
end
def aaJ:V->V->Bool
 | .non,.non=>true | .non,.int _=>true | .int _,.non=>true | .non,.bl _=>true | .bl _,.non=>true | .non,.str _=>true | .str _,.non=>true
 | .int _,.int _=>true | .bl _,.bl _=>true | .str _,.str _=>true | .JG _,.JG _=>true
 | .int _,.str _=>true | .str _,.int _=>true | .bl _,.str _=>true | .str _,.bl _=>true
 | _,_=>false
def rEq:R2:=fun x y H Q=>aaJ x y=true/\Q (.bl (decide (x=y))) H
def rNe:R2:=fun x y H Q=>aaJ x y=true/\Q (.bl (!decide (x=y))) H
theorem HF {i j:Int}:decide (V.int i=V.int j)=(i == j):=by
 rw [Bool.eq_iff_iff]
 simp
theorem Nm {i j:Bool}:decide (V.bl i=V.bl j)=(i == j):=by
 rw [Bool.eq_iff_iff]
 simp
theorem HJ {i j:Str}:decide (V.str i=V.str j)=(i == j):=by
 rw [Bool.eq_iff_iff]
 simp
theorem HN {i j:Array UInt8}:decide (V.JG i=V.JG j)=(i.toList == j.toList):=by
 rw [Bool.eq_iff_iff]
 cases i
 cases j
 simp
section
variable {X:Cx} {a b c:Expr} {ta tb tc:TE} {pos:Pos}
theorem bT {pins:List (Addr × Obj)} {σ:St} {H:Hp} {s:Shared} {Q:VK} {k k':Bool} (I:Inv X pins σ H s) (q:Q (.bl k) H) (e:k=k'):EP X pins σ Q (.bool k') s:=by
 subst e
 exact ⟨.bl k,H,I,rfl,q⟩
theorem Cg:gW X (compareOp .Eq) rEq:=by
 intro pins s σ H x y v u Q I rx ry h
 obtain ⟨hs,q⟩:=h
 cases x with
 | non =>
   cases rx
   cases y with
   | non=>cases ry; exact PySem.EqNone.eq_none_none (bT I q (by simp))
   | bl j=>cases ry; exact PySem.EqNone.eq_none_bool (bT I q (by simp))
   | int j=>obtain ⟨t',rfl⟩:=ry; exact PySem.EqNone.eq_none_int (bT I q (by simp))
   | str j=>obtain ⟨t',rfl⟩:=ry; exact PySem.EqNone.eq_none_str (bT I q (by simp))
   | _=>exact absurd (show false=true from hs) Bool.false_ne_true
 | bl i =>
   cases rx
   cases y with
   | non=>cases ry; exact PySem.EqNone.eq_bool_none (bT I q (by simp))
   | bl j=>cases ry; exact eq_bool (bT I q Nm)
   | str j=>obtain ⟨t',rfl⟩:=ry; exact PySem.EqMixed.eq_bool_str (bT I q (by simp))
   | _=>exact absurd (show false=true from hs) Bool.false_ne_true
 | int i =>
   obtain ⟨t,rfl⟩:=rx
   cases y with
   | non=>cases ry; exact PySem.EqNone.eq_int_none (bT I q (by simp))
   | int j=>obtain ⟨t',rfl⟩:=ry; exact eq_int (bT I q HF)
   | str j=>obtain ⟨t',rfl⟩:=ry; exact PySem.EqMixed.eq_int_str (bT I q (by simp))
   | _=>exact absurd (show false=true from hs) Bool.false_ne_true
 | str i =>
   obtain ⟨t,rfl⟩:=rx
   cases y with
   | non=>cases ry; exact PySem.EqNone.eq_str_none (bT I q (by simp))
   | bl j=>cases ry; exact PySem.EqMixed.eq_str_bool (bT I q (by simp))
   | int j=>obtain ⟨t',rfl⟩:=ry; exact PySem.EqMixed.eq_str_int (bT I q (by simp))
   | str j=>obtain ⟨t',rfl⟩:=ry; exact eq_str (bT I q HJ)
   | _=>exact absurd (show false=true from hs) Bool.false_ne_true
 | JG i =>
   obtain ⟨t,rfl⟩:=rx
   cases y with
   | JG j=>obtain ⟨t',rfl⟩:=ry; exact PySem.W.eq_bytes (bT I q HN)
   | _=>exact absurd (show false=true from hs) Bool.false_ne_true
 | _=>cases y <;> exact absurd (show false=true from hs) Bool.false_ne_true
theorem HW:gW X (compareOp .NotEq) rNe:=by
 intro pins s σ H x y v u Q I rx ry h
 obtain ⟨hs,q⟩:=h
 cases x with
 | non =>
   cases rx
   cases y with
   | non=>cases ry; exact PySem.EqNone.ne_none_none (bT I q (by simp))
   | bl j=>cases ry; exact PySem.EqNone.ne_none_bool (bT I q (by simp))
   | int j=>obtain ⟨t',rfl⟩:=ry; exact PySem.EqNone.ne_none_int (bT I q (by simp))
   | str j=>obtain ⟨t',rfl⟩:=ry; exact PySem.EqNone.ne_none_str (bT I q (by simp))
   | _=>exact absurd (show false=true from hs) Bool.false_ne_true
 | bl i =>
   cases rx
   cases y with
   | non=>cases ry; exact PySem.EqNone.ne_bool_none (bT I q (by simp))
   | bl j=>cases ry; exact ne_bool (bT I q (congrArg not Nm))
   | str j=>obtain ⟨t',rfl⟩:=ry; exact PySem.EqMixed.ne_bool_str (bT I q (by simp))
   | _=>exact absurd (show false=true from hs) Bool.false_ne_true
 | int i =>
   obtain ⟨t,rfl⟩:=rx
   cases y with
   | non=>cases ry; exact PySem.EqNone.ne_int_none (bT I q (by simp))
   | int j=>obtain ⟨t',rfl⟩:=ry; exact ne_int (bT I q (congrArg not HF))
   | str j=>obtain ⟨t',rfl⟩:=ry; exact PySem.EqMixed.ne_int_str (bT I q (by simp))
   | _=>exact absurd (show false=true from hs) Bool.false_ne_true
 | str i =>
   obtain ⟨t,rfl⟩:=rx
   cases y with
   | non=>cases ry; exact PySem.EqNone.ne_str_none (bT I q (by simp))
   | bl j=>cases ry; exact PySem.EqMixed.ne_str_bool (bT I q (by simp))
   | int j=>obtain ⟨t',rfl⟩:=ry; exact PySem.EqMixed.ne_str_int (bT I q (by simp))
   | str j=>obtain ⟨t',rfl⟩:=ry; exact ne_str (bT I q (congrArg not HJ))
   | _=>exact absurd (show false=true from hs) Bool.false_ne_true
 | JG i =>
   obtain ⟨t,rfl⟩:=rx
   cases y with
   | JG j=>obtain ⟨t',rfl⟩:=ry; exact PySem.W.ne_bytes (bT I q (congrArg not HN))
   | _=>exact absurd (show false=true from hs) Bool.false_ne_true
 | _=>cases y <;> exact absurd (show false=true from hs) Bool.false_ne_true
theorem aaK:gW X (compareOp .Lt) (R8 fun i j=>.bl (decide (i<j))):=Nk fun _ _ _ _ _ _ _ q=>lt_int q
theorem aaL:gW X (compareOp .LtE) (R8 fun i j=>.bl (decide (i<=j))):=Nk fun _ _ _ _ _ _ _ q=>le_int q
theorem aaM:gW X (compareOp .Gt) (R8 fun i j=>.bl (decide (j<i))):=Nk fun _ _ _ _ _ _ _ q=>gt_int q
theorem aaN:gW X (compareOp .GtE) (R8 fun i j=>.bl (decide (j<=i))):=Nk fun _ _ _ _ _ _ _ q=>ge_int q
theorem Xp:gW X (compareOp .Is) (fun x y H Q=>y=.non/\Q (.bl (decide (x=.non))) H):=by
 intro pins s σ H x y v u Q I rx ry h
 obtain ⟨rfl,q⟩:=h
 cases ry
 refine is_none_gen (bT I q ?_)
 cases x <;> first
   | (cases rx; rfl)
   | (obtain ⟨t,rfl⟩:=rx; rfl)
theorem bB (b:Expr) {op:CmpOp} (h:op≠.In:=by decide) (h2:op≠.NotIn:=by decide):behindInMarks op b=false:=by
 have e1:(op == CmpOp.In)=false:=by cases op <;> first | rfl | exact absurd rfl h
 have e2:(op == CmpOp.NotIn)=false:=by cases op <;> first | rfl | exact absurd rfl h2
 cases b <;> simp [behindInMarks,e1,e2]
theorem iG {op:CmpOp} {r:R2} (ho:gW X (compareOp op) r) (ha:PE X a ta) (hb:PE X b tb) (hm:behindInMarks op b=false):PE X (.Compare a [op] [b] pos) (Z2 r ta tb):=by
 intro pins s σ H Q I h
 exact wpAny_Compare1 (Xj ha hb I h fun v u s2 x y H2 I2 rx ry q=>ho pins s2 σ H2 x y v u Q I2 rx ry q) hm
theorem qR:(sizeLine:Nat)<2 ^ 63:=by rw [sizeLine_eq]; decide
theorem Eo:gW X (binaryOp .Add) (fun x y H Q=>∃ i j,x=.str i/\y=.str j/\i.length+j.length<=sizeLine/\Q (.str (i++j)) H):=by
 intro pins s σ H x y v u Q I rx ry h
 obtain ⟨i,j,rfl,rfl,hz,q⟩:=h
 obtain ⟨t,rfl⟩:=rx
 obtain ⟨t',rfl⟩:=ry
 exact add_str (fun t' tk=>⟨.str (i++j),H,I.tok _,⟨_,rfl⟩,q⟩) hz
theorem vals1 {x:V} {us:List Value} (r:Vals [x] us):∃ u,us=[u]/\RelV x u:=by
 cases r with
 | cons r1 r2=>cases r2; exact ⟨_,rfl,r1⟩
theorem vals2 {x y:V} {us:List Value} (r:Vals [x,y] us):∃ u w',us=[u,w']/\RelV x u/\RelV y w':=by
 cases r with
 | cons r1 r2 =>
   cases r2 with
   | cons r3 r4=>cases r4; exact ⟨_,_,rfl,r1,r3⟩
theorem yD (hc:X.calm=true):dM X (.builtin "max") (fun xs H Q=>∃ i j,xs=[.int i,.int j]/\Q (.int (if j > i then j else i)) H):=by
 intro pins s σ H xs us Q I r h
 obtain ⟨i,j,rfl,q⟩:=h
 obtain ⟨u,w',rfl,⟨t,rfl⟩,⟨t',rfl⟩⟩:=vals2 r
 refine max_two_ints (I.ok.hd hc) fun h' tk k=>⟨_,H,I.kept k,?_,q⟩
 by_cases hj:j > i
 . rw [if_pos hj,if_pos hj]; exact ⟨_,rfl⟩
 . rw [if_neg hj,if_neg hj]; exact ⟨_,rfl⟩
theorem JR (hc:X.calm=true):dM X (.builtin "min") (fun xs H Q=>∃ i j,xs=[.int i,.int j]/\Q (.int (if j<i then j else i)) H):=by
 intro pins s σ H xs us Q I r h
 obtain ⟨i,j,rfl,q⟩:=h
 obtain ⟨u,w',rfl,⟨t,rfl⟩,⟨t',rfl⟩⟩:=vals2 r
 refine min_two_ints (I.ok.hd hc) fun h' tk k=>⟨_,H,I.kept k,?_,q⟩
 by_cases hj:j<i
 . rw [if_pos hj,if_pos hj]; exact ⟨_,rfl⟩
 . rw [if_neg hj,if_neg hj]; exact ⟨_,rfl⟩
theorem Ci:dM X (.builtin "divmod") (fun xs H Q=>∃ i j,xs=[.int i,.int j]/\ae3 i j/\∀ p,H p=none->Q (.ref p) (upd H p (.tup [.int (i / j),.int (i % j)]))):=by
 intro pins s σ H xs us Q I r h
 obtain ⟨i,j,rfl,⟨h1,h2⟩,q⟩:=h
 obtain ⟨u,w',rfl,⟨t,rfl⟩,⟨t',rfl⟩⟩:=vals2 r
 refine divmod_int (by omega) ?_ (.inl (PyProof.noPylong_small (by omega)))
 rw [Int.fdiv_eq_ediv_of_nonneg i (by omega),Int.fmod_eq_emod_of_nonneg i (by omega)]
 have hn:H s.heap.objs.size=none:=I.hok.fresh (Nat.le_refl _)
 refine ⟨.ref s.heap.objs.size,_,?_,rfl,q _ hn⟩
 refine I.laid (fun b o e=>Heap.get?_push_of_some _ e) (Nat.le_refl _) ⟨by simp only [List.length_cons,List.length_nil]; rw [sizeLine_eq]; decide,[.int (i / j) s.toks,.int (i % j) (s.toks+1)],.cons ⟨_,rfl⟩ (.cons ⟨_,rfl⟩ .nil),?_⟩
 exact ⟨_,Heap.get?_push_size s.heap rfl,rfl,⟨0,rfl⟩,rfl⟩
end
end L2
namespace L2
open PySem PySem.Spec PyProof.Rows
structure Ep (h:Heap) (x dx C:Addr) (mA:Str->Option Value):Prop where
 obj:h.get? x=some (PySem.W.instObj C dx)
 ns:h.Ns1 dx mA
 ne:dx≠x
theorem JT {h:Heap} {dx:Addr} {mA:Str->Option Value} (n:h.Ns1 dx mA):∃ od,h.get? dx=some od/\∀ name,PySem.W.lookIn name od=some (mA name):=by
 obtain ⟨o,es,ep,ho,hd,hk,_,hm⟩:=n
 refine ⟨o,ho,fun name=>?_⟩
 have e:=hm name
 unfold nsFind findBy at e
 rw [<- Array.find?_toList] at e
 unfold PySem.W.lookIn
 rw [hd]
 dsimp only
 split
 . rename_i y q
   rw [q] at e
   exact congrArg some e
 . rename_i q
   rw [q] at e
   have a:es.toList.any (·.refKey)=false:=by
     rw [List.any_eq_false]
     intro y hy
     obtain ⟨z,t,hkey⟩:=hk y (Array.mem_toList_iff.mp hy)
     simp [DictEntry.refKey,hkey]
   have a':¬ es.toList.any (·.refKey)=true:=by rw [a]; exact Bool.false_ne_true
   rw [if_neg a']
   exact congrArg some e
theorem Ep.look {h:Heap} {x dx C:Addr} {mA:Str->Option Value} (I:Ep h x dx C mA):∃ od,PySem.W.InstAt h x (PySem.W.instObj C dx) C (some od)/\∀ name,PySem.W.lookIn name od=some (mA name) :=
 let ⟨od,ho,hl⟩:=JT I.ns
 ⟨od,⟨I.obj,rfl,rfl,ho⟩,hl⟩
section
variable {prog:Program} {w:World} {A:Around} {E:Value->Shared->Prop} {s:Shared} {K:PySem.W.Frag} {x dx C f:Addr} {mA:Str->Option Value} {name:Str} {v:Value}
theorem get_map {expr:Bool} {Q:Value->Shared->Prop} (X:K.In s.heap) (I:Ep s.heap x dx C mA) (hg:PySem.W.plainGet K C name=true) (hh:PySem.W.hasDictIn K C=true)
   (ha:PySem.W.findIn K (.ref C) name=some none) (hv:mA name=some v) (hv':PySem.W.handedIn v=true) (h:Q v { s with toks:=s.toks+1 }) :
   wpAny (model prog w) A (getAttr (.ref x) name expr) Q E s:=by
 obtain ⟨od,J,hl⟩:=I.look
 exact PySem.W.get_value X J (PySem.W.plainGet_of hg).1 (PySem.W.findObj_own hh ha rfl (by rw [hl,hv])) hv' h
theorem Np {pl:Sem Bool} {Q:Value × List Value->Shared->Prop} (X:K.In s.heap) (I:Ep s.heap x dx C mA) (hg:PySem.W.plainGet K C name=true)
   (hf:PySem.W.findIn K (.ref C) name=some (some (.ref f))) (ht:PySem.W.isFn K (.ref f)=true) (hv:mA name=none) (h:Q (.ref f,[.ref x]) s) :
   wpAny (model prog w) A (getMethod (.ref x) name pl) Q E s:=by
 obtain ⟨od,J,hl⟩:=I.look
 exact PySem.W.method_fn X J (PySem.W.plainGet_of hg).1 (PySem.W.plainGet_of hg).2 hf (beq_iff_eq.mp ht) (by show (PySem.W.lookIn name od).map (·.isSome)=some false; rw [hl,hv]; rfl) h
theorem Tj {ns:List Str} {Q:Unit->Shared->Prop} (X:K.In s.heap) (I:Ep s.heap x dx C mA)
   (hs:PySem.W.findIn K (.ref C) "__setattr__" = some (some (.builtin "object.__setattr__"))) (hp:PySem.W.plainOver K C=true) (ht:PySem.W.takerIn K C name=some none) (hh:PySem.W.hasDictIn K C=true)
   (hw:PySem.Within mA ns) (hsz:ns.length<=sizeLine)
   (h:∀ h',Ep h' x dx C (fun y=>if y=name then some v else mA y)->Heap.SameBut dx s.heap h'->Q () { s with heap:=h',toks:=s.toks+2 }) :
   wpAny (model prog w) A (setAttr (.ref x) name v) Q E s:=by
 obtain ⟨od,J,hl⟩:=I.look
 refine PySem.W.set_plain X J hs (PySem.W.osa_open (s:={ s with toks:=s.toks+1 }) (r:=none) X J hp ht fun b=>?_)
 obtain ⟨cd,hc,hd'⟩:=PySem.W.any_some hh
 have hx:s.heap.get? x=some ⟨.ref C,some dx,.plain,#[]⟩:=I.obj
 refine wpAny_bind (wpAny_pure (wpAny_bind (wpAny_bind (wpAny_loadPart hx (wpAny_bind (PySem.W.Looks.here (s:={ s with toks:=s.toks+1 }) (PySem.W.looks_clsIn X hc) ?_))))))
 rw [hd']
 refine wpAny_pure (a:=some dx) (wpAny_bind (wpAny_pure (wpAny_bind ?_)))
 refine wpAny_nsSet1 (s:={ s with toks:=s.toks+1 }) I.ns fun h' hn2 hs2=>?_
 obtain ⟨oD,esD,epD,hoD,hdD,hcD⟩:=hn2.count (PySem.Within.cons name v hw)
 refine wpAny_bind (wpAny_lookBehind hoD (by rw [hdD]; exact pastItsLine_dict (Nat.le_trans hcD (by rw [List.length_cons]; omega))) ?_)
 exact wpAny_pure (h _ ⟨(hs2.2 _ (Ne.symm I.ne)).trans I.obj,hn2,I.ne⟩ hs2)
theorem Nq {R:Result->Shared->Prop} {vs:List Value} {kw:List (Str × Value)} (X:K.In s.heap) (hm:PySem.W.makesIn K C=true)
   (hi:PySem.W.findIn K (.ref C) "__init__" = some (some (.ref f))) (hf:PySem.W.typeIn K (.ref f)=some (.type "function"))
   (h:codeAny (model prog w) (A.under (.builtin "type.__call__" ⟨.ref C :: vs,kw⟩)) (.call (.ref f) ⟨.ref (s.heap.objs.size+1) :: vs,kw⟩) (PySem.W.InitBack (s.heap.objs.size+1) R)
     { s with heap:=(s.heap.push PySem.W.emptyDict).push (PySem.W.instObj C s.heap.objs.size) }) :
   codeAny (model prog w) A (.call (.ref C) ⟨vs,kw⟩) R s:=by
 obtain ⟨hh,g,d,t,os⟩:=s
 exact PySem.W.make_core (PySem.W.makes_of X hm) (PySem.W.looks_findIn X hi) (fun self=>PySem.W.bind_fn X self hf) (.inl rfl) h
end
def gJ (f:Str) (v:V):List (Str × V)->List (Str × V)
 | []=>[(f,v)]
 | (g,x) :: r=>if g=f then (g,v) :: r else (g,x) :: gJ f v r
theorem sX (f g:Str) (v:V):∀ fs:List (Str × V),(gJ f v fs).lookup g=if g=f then some v else fs.lookup g
 | []=>by
   show List.lookup g [(f,v)]=_
   by_cases h:g=f
   . have hb:(g == f)=true:=beq_iff_eq.mpr h
     simp only [List.lookup,hb,if_pos h]
   . have hb:(g == f)=false:=beq_eq_false_iff_ne.mpr h
     simp only [List.lookup,hb,if_neg h]
 | (k,x) :: r=>by
   have ih:=sX f g v r
   rw [show gJ f v ((k,x) :: r)=(if k=f then (k,v) :: r else (k,x) :: gJ f v r) from rfl]
   by_cases hk:k=f
   . rw [if_pos hk]
     by_cases h:g=k
     . have hb:(g == k)=true:=beq_iff_eq.mpr h
       simp only [List.lookup,hb,if_pos (h.trans hk)]
     . have hb:(g == k)=false:=beq_eq_false_iff_ne.mpr h
       simp only [List.lookup,hb,if_neg (fun e:g=f=>h (e.trans hk.symm))]
   . rw [if_neg hk]
     by_cases h:g=k
     . have hb:(g == k)=true:=beq_iff_eq.mpr h
       simp only [List.lookup,hb,if_neg (fun e:g=f=>hk (h.symm.trans e))]
     . have hb:(g == k)=false:=beq_eq_false_iff_ne.mpr h
       simp only [List.lookup,hb]
       exact ih
theorem qT (f:Str) (v:V):∀ fs:List (Str × V),f∈(gJ f v fs).map (·.1)/\∀ g,g∈fs.map (·.1)->g∈(gJ f v fs).map (·.1)
 | []=>⟨by simp [gJ],fun g h=>by simp at h⟩
 | (k,x) :: r=>by
   obtain ⟨i1,i2⟩:=qT f v r
   rw [show gJ f v ((k,x) :: r)=(if k=f then (k,v) :: r else (k,x) :: gJ f v r) from rfl]
   by_cases hk:k=f
   . rw [if_pos hk]
     subst hk
     exact ⟨by simp,fun g h=>by simpa using h⟩
   . rw [if_neg hk]
     refine ⟨?_,fun g h=>?_⟩
     . rw [List.map_cons]
       exact List.mem_cons_of_mem _ i1
     . rw [List.map_cons] at h ⊢
       rcases List.mem_cons.mp h with e | e
       . exact List.mem_cons.mpr (.inl e)
       . exact List.mem_cons_of_mem _ (i2 g e)
theorem sY (f:Str) (v:V):∀ fs:List (Str × V),(gJ f v fs).length<=fs.length+1
 | []=>by simp [gJ]
 | (k,x) :: r=>by
   have ih:=sY f v r
   rw [show gJ f v ((k,x) :: r)=(if k=f then (k,v) :: r else (k,x) :: gJ f v r) from rfl]
   by_cases hk:k=f
   . rw [if_pos hk,List.length_cons,List.length_cons]; omega
   . rw [if_neg hk,List.length_cons,List.length_cons]; omega
theorem mG.some_of {v:V} {o:Option Value} (r:mG (some v) o):∃ u,o=some u/\RelV v u:=by
 cases o with
 | none=>exact (show False from r).elim
 | some u=>exact ⟨u,rfl,r⟩
theorem mG.none_of {o:Option Value} (r:mG none o):o=none:=by
 cases o with
 | none=>rfl
 | some u=>exact (show False from r).elim
theorem JV {v:V} {u:Value} (r:RelV v u):PySem.W.handedIn u=true:=by
 cases v with
 | non=>cases (show u=Value.none from r); rfl
 | bl b=>cases (show u=Value.bool b from r); rfl
 | int i=>obtain ⟨t,e⟩:=(show ∃ t,u=Value.int i t from r); cases e; rfl
 | str x=>obtain ⟨t,e⟩:=(show ∃ t,u=Value.str x t from r); cases e; rfl
 | JG b=>obtain ⟨t,e⟩:=(show ∃ t,u=Value.bytes b t from r); cases e; rfl
 | flt b=>obtain ⟨t,e⟩:=(show ∃ t,u=Value.float b t from r); cases e; rfl
 | ref a=>cases (show u=Value.ref a from r); rfl
 | ty n=>cases (show u=Value.type n from r); rfl
section
variable {P:Program} {w:World} {H H':Hp} {h h':Heap} {a C dx:Addr} {fs fs':List (Str × V)}
theorem uD (hok:pY P w H h) (e:H a=some (.ins C dx fs)):∃ mA,Ep h a dx C mA/\(∀ f,mG (fs.lookup f) (mA f))/\PySem.Within mA (fs.map (·.1))/\fs.length<=1000/\H dx=some (.own a):=by
 obtain ⟨d,z,ne,ob,mA,n,r,q⟩:=(show bQ P w H h a (.ins C dx fs) from hok a _ e)
 exact ⟨mA,⟨ob,n,ne⟩,r,q,z,d⟩
end
structure Cls (K:PySem.W.Frag) (C:Addr):Prop where
 pg:PySem.W.plainGet K C Str.empty=true
 hd:PySem.W.hasDictIn K C=true
 po:PySem.W.plainOver K C=true
 sa:PySem.W.findIn K (.ref C) "__setattr__" = some (some (.builtin "object.__setattr__"))
theorem Cls.get {K:PySem.W.Frag} {C:Addr} (c:Cls K C) (f:Str):PySem.W.plainGet K C f=true:=c.pg
def j5 (K:PySem.W.Frag) (C:Addr) (f:Str):Prop:=PySem.W.findIn K (.ref C) f=some none
theorem j5.taker {K:PySem.W.Frag} {C:Addr} {f:Str} (n:j5 K C f):PySem.W.takerIn K C f=some none:=by
 unfold PySem.W.takerIn
 rw [show PySem.W.findIn K (.ref C) f=some none from n]
 rfl
structure Meth (K:PySem.W.Frag) (C:Addr) (m:Str) (f:Addr):Prop where
 at_:PySem.W.findIn K (.ref C) m=some (some (.ref f))
 fn:PySem.W.isFn K (.ref f)=true
 kp:PySem.W.keepIn K (.ref f)=true
section
variable {X:Cx} {pins:List (Addr × Obj)} {σ:St} {H:Hp} {s:Shared} {a C dx:Addr} {fs:List (Str × V)} {f:Str} {v:V} {A:Around} {E:Value->Shared->Prop}
theorem Er {b:Bool} {Q:Value->Shared->Prop} (I:Inv X pins σ H s) (e:H a=some (.ins C dx fs)) (c:Cls X.K C) (n:j5 X.K C f) (l:fs.lookup f=some v)
   (h:∀ u s',Inv X pins σ H s'->RelV v u->Q u s'):wpAny (model X.prog X.w) A (getAttr (.ref a) f b) Q E s:=by
 obtain ⟨mA,O,r,_,_,_⟩:=uD I.hok e
 obtain ⟨u,hu,ru⟩:=mG.some_of (v:=v) (o:=mA f) (by rw [<- l]; exact r f)
 exact get_map I.sV O (c.get f) c.hd n hu (JV ru) (h u _ (I.tok _) ru)
theorem uX {m:Str} {g:Addr} {pl:Sem Bool} {Q:Value × List Value->Shared->Prop} (I:Inv X pins σ H s) (e:H a=some (.ins C dx fs)) (c:Cls X.K C) (k:Meth X.K C m g) (l:fs.lookup m=none)
   (h:Q (.ref g,[.ref a]) s):wpAny (model X.prog X.w) A (getMethod (.ref a) m pl) Q E s:=by
 obtain ⟨mA,O,r,_,_,_⟩:=uD I.hok e
 have hn:mA m=none:=mG.none_of (by rw [<- l]; exact r m)
 exact Np I.sV O (c.get m) k.at_ k.fn hn h
theorem Es {y:V} {u:Value} {Q:Unit->Shared->Prop} (I:Inv X pins σ H s) (e:H a=some (.ins C dx fs)) (c:Cls X.K C) (n:j5 X.K C f) (hl:fs.length<1000) (ry:RelV y u)
   (h:∀ s',Inv X pins σ (upd H a (.ins C dx (gJ f y fs))) s'->Q () s'):wpAny (model X.prog X.w) A (setAttr (.ref a) f u) Q E s:=by
 obtain ⟨mA,O,r,wi,_,ho⟩:=uD I.hok e
 have hz:(fs.map (·.1)).length<=sizeLine:=by rw [List.length_map,sizeLine_eq]; omega
 refine Tj I.sV O c.sa c.po n.taker c.hd wi hz fun h' O' sb=>h _ ?_
 have hd:∃ o,h'.get? dx=some o:=let ⟨o,_,_,e',_⟩:=O'.ns; ⟨o,e'⟩
 refine I.write (x:=a) (e:=dx) (by rw [e]; exact True.intro) (.inr ho) (fun b q hb z=>(sb.2 b hb).trans z) hd ?_
 refine ⟨by rw [aB O.ne]; exact ho,?_,O.ne,O'.obj,_,O'.ns,fun g=>?_,fun g hg=>?_⟩
 . have:=sY f y fs; omega
 . show mG ((gJ f y fs).lookup g) (if g=f then some u else mA g)
   rw [sX]
   by_cases q:g=f
   . rw [if_pos q,if_pos q]; exact ry
   . rw [if_neg q,if_neg q]; exact r g
 . by_cases q:g=f
   . rw [q]; exact (qT f y fs).1
   . refine (qT f y fs).2 g (wi g fun z=>hg ?_)
     show (if g=f then some u else mA g)=none
     rw [if_neg q]; exact z
theorem Inv.made (I:Inv X pins σ H s):Inv X pins σ (upd (upd H s.heap.objs.size (.own (s.heap.objs.size+1))) (s.heap.objs.size+1) (.ins C s.heap.objs.size []))
   { s with heap:=(s.heap.push PySem.W.emptyDict).push (PySem.W.instObj C s.heap.objs.size) }:=by
 have e1:(s.heap.push PySem.W.emptyDict).get? s.heap.objs.size=some PySem.W.emptyDict:=Heap.get?_push_size s.heap rfl
 have e2:((s.heap.push PySem.W.emptyDict).push (PySem.W.instObj C s.heap.objs.size)).get? (s.heap.objs.size+1)=some (PySem.W.instObj C s.heap.objs.size):=by
   have:=Heap.get?_push_size (s.heap.push PySem.W.emptyDict) (o:=PySem.W.instObj C s.heap.objs.size) rfl
   rwa [Heap.size_push] at this
 have e3:(s.heap.push PySem.W.emptyDict).Ns s.heap.objs.size (fun _=>none):=⟨PySem.W.emptyDict,#[],_,e1,rfl,(fun e he=>absurd he (by simp)),fun _=>rfl⟩
 have I1:=I.laid (a:=s.heap.objs.size) (o:=.own (s.heap.objs.size+1)) (h':=s.heap.push PySem.W.emptyDict) (t':=s.toks) (fun b u q=>Heap.get?_push_of_some _ q) (Nat.le_refl _) ⟨_,e1⟩
 refine I1.laid (a:=s.heap.objs.size+1) (o:=.ins C s.heap.objs.size []) (t':=s.toks) (fun b u q=>Heap.get?_push_of_some _ q) (Nat.le_of_eq (Heap.size_push _ _)) ?_
 have ne:s.heap.objs.size≠s.heap.objs.size+1:=Nat.ne_of_lt (Nat.lt_succ_self _)
 refine ⟨by rw [aB ne,ao],Nat.zero_le _,ne,e2,fun _=>none,(Heap.Ns1.of_empty e3).at fun o q=>Heap.get?_push_of_some _ q,fun _=>True.intro,fun y hy=>absurd rfl hy⟩
theorem Tn {prog:Program} {w:World} {env:Env} {e:Expr} {f:Str} {pos:Pos} {s:Shared} {Q:Value->Shared->Prop} (hb:attributeBase e f env (eval e env)=eval e env)
   (h:wpAny (model prog w) A (eval e env) (fun o s₁=>wpAny (model prog w) A (getAttr o f true) Q E s₁) E s):wpAny (model prog w) A (eval (.Attribute e f pos) env) Q E s :=
 Attribute_any_ h (by rw [arm_eval_Attribute,hb])
end
def ae4 (K:PySem.W.Frag) (ta:TE) (f:Str):TE:=fun σ H Q=>ta σ H fun x H1=>∃ a C dx fs v,x=.ref a/\H1 a=some (.ins C dx fs)/\Cls K C/\j5 K C f/\fs.lookup f=some v/\Q v H1
def ae5 (K:PySem.W.Frag) (ta tv:TE) (f:Str):TS:=fun D σ H=>tv σ H fun y H1=>ta σ H1 fun x H2=>∃ a C dx fs,x=.ref a/\H2 a=some (.ins C dx fs)/\Cls K C/\j5 K C f/\fs.length<1000 /\
 D.nx σ (upd H2 a (.ins C dx (gJ f y fs)))
section
variable {X:Cx} {o e value:Expr} {f:Str} {pos pos' tpos:Pos} {ta tv:TE}
theorem eX (he:PE X e ta) (hb:attributeBase e f X.env (eval e X.env)=eval e X.env):PE X (.Attribute e f pos) (ae4 X.K ta f):=by
 intro pins s σ H Q I h
 refine Tn hb (cY (he pins s σ H _ I h) fun u s1 ⟨x,H1,I1,rx,a,C,dx,fs,v,ex,ea,c,n,l,q⟩=>?_)
 subst ex
 obtain rfl:u=Value.ref a:=rx
 exact Er I1 ea c n l fun u' s2 I2 ru=>⟨v,H1,I2,ru,q⟩
theorem uY (ha:PE X o ta) (hv:PE X value tv) (hs:swapsWith value (some (.Attribute o f pos')) pos.line X.env=pure false):PS X (.Assign [.Attribute o f pos'] value pos) (ae5 X.K ta tv f):=by
 intro pins s σ H D I h
 refine plainObj_wpAny_Assign_Attribute (cY (hv pins s σ H _ I h) fun u s1 ⟨y,H1,I1,ry,q⟩=>cY (ha pins s1 σ H1 _ I1 q) fun ov s2 ⟨x,H2,I2,rx,a,C,dx,fs,ex,ea,c,n,l,q2⟩=>?_) hs
 subst ex
 obtain rfl:ov=Value.ref a:=rx
 exact Es I2 ea c n l ry fun s3 I3=>⟨σ,_,I3,q2⟩
end
section
variable {X:Cx} {pins:List (Addr × Obj)} {σ:St} {H:Hp} {s:Shared} {A:Around} {E:Value->Shared->Prop} {Q:Value->Shared->Prop} {c:Value} {b:Bool}
inductive iR (K:PySem.W.Frag) (H:Hp):V->Value->Prop where
 | non:iR K H .non (.type "NoneType")
 | bl (x:Bool):iR K H (.bl x) (.type "bool")
 | int (i:Int):iR K H (.int i) (.type "int")
 | str (x:Str):iR K H (.str x) (.type "str")
 | flt (x:UInt64):iR K H (.flt x) (.type "float")
 | lst {a:Addr} {xs:List V} (e:H a=some (.lst xs)):iR K H (.ref a) (.type "list")
 | iQ {a:Addr} {o:Obj} {xs:List V} (e:H a=some (.iQ o (.lst xs))):iR K H (.ref a) (.type "list")
 | tup {a:Addr} {xs:List V} (e:H a=some (.tup xs)):iR K H (.ref a) (.type "tuple")
 | dK {a:Addr} {kvs:List (Key × V)} (e:H a=some (.dK kvs)):iR K H (.ref a) (.type "dict")
 | dT {a:Addr} {kvs:List (List Key × V)} (e:H a=some (.dT kvs)):iR K H (.ref a) (.type "dict")
 | ins {a C dx:Addr} {fs:List (Str × V)} (e:H a=some (.ins C dx fs)) (cl:Cls K C) (ha:PySem.W.findIn K (.ref C) "__class__" = some (some (.builtin "object.__class__")))
     (hn:PySem.W.specialIn K (.builtin "object.__class__") "__get__" = some (some (.builtin "getset_descriptor.__get__"))) (htk:PySem.W.takesIn K (.builtin "object.__class__")=some true)
     (hm:PySem.W.mroIn K C (.type "object")=some true):iR K H (.ref a) (.ref C)
theorem JW {x:V} {u t:Value} (I:Inv X pins σ H s) (rx:RelV x u) (ty:iR X.K H x t) (e:PySem.W.kitOne X.K t c=some b) (h:∀ tk,Q (.bool b) { s with toks:=tk }) :
   wpAny (model X.prog X.w) A (call (.builtin "isinstance") [u,c]) Q E s:=by
 cases ty with
 | non=>cases (show u=Value.none from rx); exact PySem.W.kia_one PySem.W.kitx_none I.sV True.intro e (fun z=>nomatch z) h
 | bl y=>cases (show u=Value.bool y from rx); exact PySem.W.kia_one PySem.W.kitx_bool I.sV True.intro e (fun z=>nomatch z) h
 | int i=>obtain ⟨t,q⟩:=(show ∃ t,u=Value.int i t from rx); cases q; exact PySem.W.kia_one PySem.W.kitx_int I.sV True.intro e (fun z=>nomatch z) h
 | str y=>obtain ⟨t,q⟩:=(show ∃ t,u=Value.str y t from rx); cases q; exact PySem.W.kia_one PySem.W.kitx_str I.sV True.intro e (fun z=>nomatch z) h
 | flt y=>obtain ⟨t,q⟩:=(show ∃ t,u=Value.float y t from rx); cases q; exact PySem.W.kia_one PySem.W.kitx_float I.sV True.intro e (fun z=>nomatch z) h
 | @lst a xs ea =>
   cases (show u=Value.ref a from rx)
   obtain ⟨_,_,n,_,h1⟩:=(show bQ X.prog X.w H s.heap a (.lst xs) from I.hok a _ ea)
   exact PySem.W.kia_one PySem.W.kitx_list I.sV ⟨_,h1,rfl⟩ e (fun z=>nomatch z) h
 | @iQ a ob xs ea =>
   cases (show u=Value.ref a from rx)
   obtain ⟨_,_,_,n,_,h1⟩:=(show bQ X.prog X.w H s.heap a (.iQ ob (.lst xs)) from I.hok a _ ea)
   exact PySem.W.kia_one PySem.W.kitx_list I.sV ⟨_,h1,rfl⟩ e (fun z=>nomatch z) h
 | @tup a xs ea =>
   cases (show u=Value.ref a from rx)
   obtain ⟨_,_,_,p⟩:=(show bQ X.prog X.w H s.heap a (.tup xs) from I.hok a _ ea)
   obtain ⟨o,h1,h2,_⟩:=p
   exact PySem.W.kia_one PySem.W.kitx_tuple I.sV ⟨o,h1,h2⟩ e (fun z=>nomatch z) h
 | @dK a kvs ea =>
   cases (show u=Value.ref a from rx)
   obtain ⟨_,_,vs,_,p⟩:=(show bQ X.prog X.w H s.heap a (.dK kvs) from I.hok a _ ea)
   obtain ⟨o,es,ep,h1,h2,_⟩:=p
   exact PySem.W.kia_one PySem.W.kitx_dict I.sV ⟨o,h1,h2.1⟩ e (fun z=>nomatch z) h
 | @dT a kvs ea =>
   cases (show u=Value.ref a from rx)
   obtain ⟨_,_,xs,_,o,es,ep,h1,h2,_⟩:=(show bQ X.prog X.w H s.heap a (.dT kvs) from I.hok a _ ea)
   exact PySem.W.kia_one PySem.W.kitx_dict I.sV ⟨o,h1,h2.1⟩ e (fun z=>nomatch z) h
 | @ins a C dx fs ea cl ha hn htk hm =>
   cases (show u=Value.ref a from rx)
   obtain ⟨mA,O,_⟩:=uD I.hok ea
   obtain ⟨od,J,_⟩:=O.look
   exact PySem.W.kia_one (PySem.W.kitx_own (cl.get _) cl.hd ha hn htk hm) I.sV J e (fun z=>nomatch z) h
end
end L2
namespace L2
open PySem PySem.Spec PyProof.Rows
structure gM (k:Nat) (A:Around):Prop where
 hd:A.handled=none
 dp:A.depth+3 * k+5<recursionLimit
 un:A.units+16 * k+200<cLine
theorem gM.mono {j k:Nat} {A:Around} (r:gM k A) (h:j<=k):gM j A:=⟨r.hd,by have:=r.dp; omega,by have:=r.un; omega⟩
theorem gM.deeper {k:Nat} {A:Around} (r:gM (k+1) A) (env:Env):gM k (A.deeper env) :=
 ⟨r.hd,by have:=r.dp; show A.depth+1+3 * k+5<_; omega,by have:=r.un; show A.units+3+16 * k+200<_; omega⟩
theorem Et {A:Around} {C:Addr} {us:List Value} {kw:List (Str × Value)}:(A.under (.builtin "type.__call__" ⟨.ref C :: us,kw⟩)).depth=A.depth+1:=by
 first | rfl | simp [Around.under,Code.weight,Code.isCreation,Code.isGuard,Code.isCaller,Code.frames,Code.isFrame,guardIds]
theorem Eu {A:Around} {C:Addr} {us:List Value} {kw:List (Str × Value)}:(A.under (.builtin "type.__call__" ⟨.ref C :: us,kw⟩)).units=A.units+1:=by
 first | rfl | simp [Around.under,Code.cUnits,Code.frames,Code.isFrame]
theorem gM.make {k:Nat} {A:Around} (r:gM (k+1) A) (C:Addr) (us:List Value) (kw:List (Str × Value)):gM k (A.under (.builtin "type.__call__" ⟨.ref C :: us,kw⟩)) :=
 ⟨r.hd,by have:=r.dp; rw [Et]; omega,by have:=r.un; rw [Eu]; omega⟩
theorem gM.depth {k:Nat} {A:Around} (r:gM k A):A.depth<recursionLimit:=by have:=r.dp; omega
theorem gM.units {k:Nat} {A:Around} (r:gM k A):A.units+64<cLine:=by have:=r.un; omega
theorem gM.Xq {k:Nat} {A:Around} (r:gM k A):A.units<cLine:=by have:=r.un; omega
def JX:TA:=fun _ H Q=>Q [] H
def sZ (ta:TE) (tr:TA):TA:=fun σ H Q=>ta σ H fun x H1=>tr σ H1 fun xs H2=>Q (x :: xs) H2
section
variable {X:Cx} {e:Expr} {es:List Expr} {te:TE} {t:TA} {pos:Pos}
theorem aq:PA X [] JX:=fun _ _ _ _ H Q I h=>Calls.spliced_nil ⟨[],H,I,.nil,h⟩
theorem aj (ha:PE X e te) (hr:PA X es t) (hs:starEach (e :: es) X.env=(false,eval e X.env) :: starEach es X.env:=by rfl):PA X (e :: es) (sZ te t):=by
 intro pos pins s σ H Q I h
 rw [hs]
 show wpAny _ _ (spliced ((false,eval e X.env) :: backTo pos (starEach es X.env))) _ _ s
 refine Calls.spliced_cons (cY (ha pins s σ H _ I h) fun u s1 ⟨x,H1,I1,r1,q1⟩=>?_)
 exact cY (hr pos pins s1 σ H1 _ I1 q1) fun us s2 ⟨xs,H2,I2,r2,q2⟩=>⟨x :: xs,H2,I2,.cons r1 r2,q2⟩
def aaO (t:TA):TE:=fun σ H Q=>t σ H fun xs H1=>xs.length<=sizeLine/\∀ p,H1 p=none->Q (.ref p) (upd H1 p (.tup xs))
def aaP (t:TA):TE:=fun σ H Q=>t σ H fun xs H1=>xs.length<=sizeLine/\∀ p,H1 p=none->Q (.ref p) (upd H1 p (.lst xs))
theorem bK {x1} (h:PA X es t):PE X (.Tuple es x1 pos) (aaO t):=by
 intro pins s σ H Q I hq
 refine wpAny_Tuple_spliced (cY (h pos pins s σ H _ I hq) fun us s1 ⟨xs,H1,I1,r,z,q⟩=>⟨by rw [<- r.length]; exact z,?_⟩)
 have hf:H1 s1.heap.objs.size=none:=I1.hok.fresh (Nat.le_refl _)
 refine ⟨.ref s1.heap.objs.size,upd H1 s1.heap.objs.size (.tup xs),I1.laid (t':=s1.toks) (fun b u e=>Heap.get?_push_of_some _ e) (Nat.le_refl _) ?_,rfl,q _ hf⟩
 exact ⟨z,us,r,⟨_,Heap.get?_push_size _ rfl,rfl,⟨_,rfl⟩,rfl⟩⟩
theorem d8 (h:PA X es t):PE X (.List es pos) (aaP t):=by
 intro pins s σ H Q I hq
 refine wpAny_List_spliced (cY (h pos pins s σ H _ I hq) fun us s1 ⟨xs,H1,I1,r,z,q⟩=>⟨by rw [<- r.length]; exact z,?_⟩)
 have hf:H1 s1.heap.objs.size=none:=I1.hok.fresh (Nat.le_refl _)
 refine ⟨.ref s1.heap.objs.size,upd H1 s1.heap.objs.size (.lst xs),I1.laid (t':=s1.toks) (fun b u e=>Heap.get?_push_of_some _ e) (Nat.le_refl _) ?_,rfl,q _ hf⟩
 exact ⟨z,us,0,r,Heap.get?_push_size _ rfl⟩
end
abbrev Sp:=List V->Hp->VK->XK->Prop
abbrev Mx:=List Env->Hp->Shared->XK->Value->Shared->Prop
structure Ew (P:Program) (w:World) (K:PySem.W.Frag) (mg:Str->Option Value) (base:Heap) (A:Around) (outer:List Env) (s:Shared) (H:Hp):Prop where
 frames:A.frames=some outer
 mod:Mod K mg base
 bs:∀ b o,base.get? b=some o->s.heap.get? b=some o/\H b=none
 Te:base.objs.size<=s.heap.objs.size
 um:s.heap.FunFrames base outer
 W9:∀ b∈frs outer,H b=none
 hok:pY P w H s.heap
 bare:AllBare s.gens
def CE (outer:List Env) (P:Program) (w:World) (H:Hp) (s:Shared) (Q:VK) (u:Value) (s':Shared):Prop :=
 ∃ v H',s'.os=s.os/\AllBare s'.gens/\Un (frs outer) [] H H' s.heap s'.heap/\pY P w H' s'.heap/\RelV v u/\Q v H'
def CR (CX:Mx) (outer:List Env) (P:Program) (w:World) (H:Hp) (s:Shared) (Q:VK) (E:XK) (r:Result) (s':Shared):Prop :=
 match r with
 | .ok (.ret u)=>CE outer P w H s Q u s'
 | .ok _=>False
 | .error e=>CX outer H s E e s'
structure aO (P:Program) (w:World) (K:PySem.W.Frag) (mg:Str->Option Value) (base:Heap) (CX:Mx) (k:Nat) (f:Addr) (fd:FuncData) (ps:List Str) (sp:Sp):Prop where
 len:∀ vs H Q E,sp vs H Q E->vs.length=ps.length
 run:∀ (A:Around) (outer:List Env) (s:Shared) (H:Hp) (args:Args) (us:List Value) (vs:List V) (Q:VK) (E:XK),gM k A->Ew P w K mg base A outer s H->BindsTo s fd args (ps.zip us)->Vals vs us->sp vs H Q E ->
   codeAny (model P w) A (.call (.ref f) args) (CR CX outer P w H s Q E) s
theorem aO.mono {P:Program} {w:World} {K:PySem.W.Frag} {mg:Str->Option Value} {base:Heap} {CX:Mx} {j k:Nat} {f:Addr} {fd:FuncData} {ps:List Str} {sp:Sp} (F:aO P w K mg base CX j f fd ps sp) (h:j<=k) :
   aO P w K mg base CX k f fd ps sp:=⟨F.len,fun A outer s H args us vs Q E hr=>F.run A outer s H args us vs Q E (hr.mono h)⟩
theorem Ew.make {P:Program} {w:World} {K:PySem.W.Frag} {mg:Str->Option Value} {base:Heap} {A:Around} {outer:List Env} {s:Shared} {H:Hp} (e:Ew P w K mg base A outer s H) (C:Addr) (us:List Value) (kw:List (Str × Value)) :
   Ew P w K mg base (A.under (.builtin "type.__call__" ⟨.ref C :: us,kw⟩)) outer s H:=⟨by first | exact e.frames | (simpa [Around.under,Code.envs,Code.isFrame,pushEnvs] using e.frames),e.mod,e.bs,e.Te,e.um,e.W9,e.hok,e.bare⟩
section
variable {X:Cx} {pins:List (Addr × Obj)} {σ:St} {H:Hp} {s s':Shared}
theorem Inv.env0 (I:Inv X pins σ H s):Ew X.prog X.w X.K X.mg X.base X.A X.stack s H :=
 ⟨I.ok.frames,I.ok.mod,I.bs,Nat.le_trans I.ok.Te I.sz,I.stack,I.Hy,I.hok,I.bare⟩
theorem Inv.after {Q:VK} {u:Value} (I:Inv X pins σ H s) (h:CE X.stack X.prog X.w H s Q u s'):EP X pins σ Q u s':=by
 obtain ⟨v,H',os,bare,un,hok,r,q⟩:=h
 obtain ⟨hh,g,d,t,os'⟩:=s'
 obtain rfl:os'=s.os:=os
 exact ⟨v,H',I.call (h':=hh) (g':=g) (d':=d) (t':=t) (ch:=[]) un hok bare (fun b z=>absurd z (by simp)),r,q⟩
end
def Wf (sp:Sp) (tu:List V) (E:XK) (t:TA):TE:=fun σ H Q=>t σ H fun vs H1=>sp (vs++tu) H1 Q E
def Wg (C:Addr) (m:Str) (sp:Sp) (tu:List V) (E:XK) (ta:TE) (t:TA):TE:=fun σ H Q=>ta σ H fun x H1=>∃ a dx fs,x=.ref a/\H1 a=some (.ins C dx fs)/\fs.lookup m=none /\
 t σ H1 fun vs H2=>sp (x :: (vs++tu)) H2 Q E
def Wh (C:Addr) (sp:Sp) (tu:List V) (E:XK) (t:TA):TE:=fun σ H Q=>t σ H fun vs H1=>∀ x dx,H1 x=none->H1 dx=none->dx≠x ->
 sp (.ref x :: (vs++tu)) (upd (upd H1 dx (.own x)) x (.ins C dx [])) (fun v H2=>v=.non/\Q (.ref x) H2) E
def Binds (K:PySem.W.Frag) (fd:FuncData) (ps:List Str) (ds:List Value):Prop :=
 ∀ (s:Shared) (us:List Value),K.In s.heap->(us++ds).length=ps.length->BindsTo s fd ⟨us,[]⟩ (ps.zip (us++ds))
theorem Binds.all {K:PySem.W.Frag} {fd:FuncData} {ps:List Str} (h:∀ us:List Value,us.length=ps.length->bindArgs fd ⟨us,[]⟩=pure (ps.zip us)):Binds K fd ps []:=fun s us _ hl=>by
 rw [List.append_nil] at hl ⊢
 exact .of_eq (h us hl)
def Passes (CX:Mx) (X:Cx) (E:XK):Prop:=∀ (pins:List (Addr × Obj)) (σ:St) (H:Hp) (s:Shared) (e:Value) (s':Shared),Inv X pins σ H s->CX X.stack H s E e s'->X.xe e s'
section
variable {X:Cx} {CX:Mx} {k:Nat} {f C:Addr} {fd:FuncData} {ps:List Str} {sp:Sp} {tu:List V} {ds:List Value} {E:XK} {x m:Str} {p pos apos:Pos} {e o:Expr} {es:List Expr} {ta:TE} {t:TA}
theorem zV {pins:List (Addr × Obj)} {σ:St} {H:Hp} {s:Shared} {Q:VK} {us:List Value} {vs:List V} (F:aO X.prog X.w X.K X.mg X.base CX k f fd ps sp) (hr:gM k X.A) (hb:Binds X.K fd ps ds) (hd:Vals tu ds) (hx:Passes CX X E)
   (I:Inv X pins σ H s) (r:Vals vs us) (h:sp (vs++tu) H Q E):wpAny (model X.prog X.w) X.A (call (.ref f) us) (EP X pins σ Q) X.xe s:=by
 have r2:Vals (vs++tu) (us++ds):=r.append hd
 have hl:(us++ds).length=ps.length:=by rw [<- r2.length]; exact F.len _ _ _ _ h
 refine wpAny_call (codeAny_mono (F.run X.A X.stack s H ⟨us,[]⟩ (us++ds) (vs++tu) Q E hr I.env0 (hb s us I.sV hl) r2 h) fun r s' hq=>?_)
 cases r with
 | error e=>exact hx pins σ H s e s' I hq
 | ok fl =>
   cases fl with
   | ret u=>exact I.after hq
   | next=>exact False.elim hq
   | brk=>exact False.elim hq
   | cont=>exact False.elim hq
theorem aM (F:aO X.prog X.w X.K X.mg X.base CX k f fd ps sp) (hr:gM k X.A) (hg:Gl X x) (hm:X.mg x=some (.ref f)) (hk:PySem.W.keepIn X.K (.ref f)=true) (hb:Binds X.K fd ps ds) (hd:Vals tu ds) (hx:Passes CX X E)
   (ha:PA X (e :: es) t) (hdb:(x == ("__debug__" : Str))=false:=by decide) (he:starEach (e :: es) X.env=(false,eval e X.env) :: starEach es X.env:=by rfl) (hpl:(backTo pos (starEach es X.env)).any (·.1)=false:=by rfl) :
   PE X (.Call (.Name x p) (e :: es) [] pos) (Wf sp tu E t):=by
 intro pins s σ H Q I h
 refine wpAny_Call_Name_kw (uy I hg hm ?_ hdb)
 refine PySem.W.callWith_K (h₀:=X.base) I.ok.mod.kin hk (cY (ha pos pins s σ H _ I h) fun us s1 ⟨vs,H1,I1,r,q⟩=>⟨I1.sV,?_⟩) he hpl
 exact zV F hr hb hd hx I1 r q
theorem Nr (F:aO X.prog X.w X.K X.mg X.base CX k f fd ps sp) (hr:gM k X.A) (hg:Gl X x) (hm:X.mg x=some (.ref f)) (hk:PySem.W.keepIn X.K (.ref f)=true) (hb:Binds X.K fd ps ds) (hd:Vals tu ds) (hx:Passes CX X E)
   (hdb:(x == ("__debug__" : Str))=false:=by decide):PE X (.Call (.Name x p) [] [] pos) (Wf sp tu E JX):=by
 intro pins s σ H Q I h
 refine wpAny_Call_Name_kw (uy I hg hm ?_ hdb)
 exact PySem.W.callWith_K0 I.sV hk (zV (us:=[]) F hr hb hd hx I .nil h)
theorem jl {pl:Sem Bool} (he:PE X o ta) (c:Cls X.K C) (hm:Meth X.K C m f) (F:aO X.prog X.w X.K X.mg X.base CX k f fd ps sp) (hr:gM k X.A) (hb:Binds X.K fd ps ds) (hd:Vals tu ds) (hx:Passes CX X E) (ha:PA X (e :: es) t)
   (hst:starEach (e :: es) X.env=(false,eval e X.env) :: starEach es X.env:=by rfl) (hpl:(backTo pos (starEach es X.env)).any (·.1)=false:=by rfl)
   (ht:eval (.Call (.Attribute o m apos) (e :: es) [] pos) X.env=(do
     let ov <- eval o X.env
     standAt apos.atName
     let (f,first) <- holding [ov] (getMethod ov m pl)
     callWith pos f first (backTo pos (starEach (e :: es) X.env)) (backToKw pos (keywordEach [] X.env))):=by rfl) :
   PE X (.Call (.Attribute o m apos) (e :: es) [] pos) (Wg C m sp tu E ta t):=by
 intro pins s σ H Q I h
 refine PySem.W.methodCall_KW (pl:=pl) (cY (he pins s σ H _ I h) fun u s1 ⟨x,H1,I1,rx,a,dx,fs,ex,ea,l,q⟩=>?_) ht
 subst ex
 obtain rfl:u=Value.ref a:=rx
 refine uX I1 ea c hm l ?_
 refine PySem.W.callWith_K (first:=[.ref a]) (h₀:=X.base) I.ok.mod.kin hm.kp (cY (ha pos pins s1 σ H1 _ I1 q) fun us s2 ⟨vs,H2,I2,r,q2⟩=>⟨I2.sV,?_⟩) hst hpl
 exact zV (us:=.ref a :: us) (vs:=.ref a :: vs) F hr hb hd hx I2 (.cons rfl r) q2
theorem qg {pl:Sem Bool} (he:PE X o ta) (c:Cls X.K C) (hm:Meth X.K C m f) (F:aO X.prog X.w X.K X.mg X.base CX k f fd ps sp) (hr:gM k X.A) (hb:Binds X.K fd ps ds) (hd:Vals tu ds) (hx:Passes CX X E)
   (ht:eval (.Call (.Attribute o m apos) [] [] pos) X.env=(do
     let ov <- eval o X.env
     standAt apos.atName
     let (f,first) <- holding [ov] (getMethod ov m pl)
     callWith pos f first (backTo pos (starEach [] X.env)) (backToKw pos (keywordEach [] X.env))):=by rfl) :
   PE X (.Call (.Attribute o m apos) [] [] pos) (Wg C m sp tu E ta JX):=by
 intro pins s σ H Q I h
 refine PySem.W.methodCall_KW (pl:=pl) (cY (he pins s σ H _ I h) fun u s1 ⟨x,H1,I1,rx,a,dx,fs,ex,ea,l,q⟩=>?_) ht
 subst ex
 obtain rfl:u=Value.ref a:=rx
 refine uX I1 ea c hm l ?_
 exact PySem.W.callWith_K0 (first:=[.ref a]) I1.sV hm.kp (zV (us:=[.ref a]) (vs:=[.ref a]) F hr hb hd hx I1 (.cons rfl .nil) q)
structure Mk (K:PySem.W.Frag) (C f:Addr):Prop where
 makes:PySem.W.makesIn K C=true
 init:PySem.W.findIn K (.ref C) "__init__" = some (some (.ref f))
 fn:PySem.W.isFn K (.ref f)=true
 kp:PySem.W.keepIn K (.ref C)=true
theorem Nt {pins:List (Addr × Obj)} {σ:St} {H:Hp} {s:Shared} {Q:VK} {us:List Value} {vs:List V} (M:Mk X.K C f) (F:aO X.prog X.w X.K X.mg X.base CX k f fd ps sp) (hr:gM (k+1) X.A) (hb:Binds X.K fd ps ds) (hd:Vals tu ds)
   (hx:Passes CX X E) (I:Inv X pins σ H s) (r:Vals vs us)
   (h:∀ x dx,H x=none->H dx=none->dx≠x->sp (.ref x :: (vs++tu)) (upd (upd H dx (.own x)) x (.ins C dx [])) (fun v H2=>v=.non/\Q (.ref x) H2) E) :
   wpAny (model X.prog X.w) X.A (call (.ref C) us) (EP X pins σ Q) X.xe s:=by
 have hq:=h (s.heap.objs.size+1) s.heap.objs.size (I.hok.fresh (Nat.le_succ _)) (I.hok.fresh (Nat.le_refl _)) (Nat.ne_of_lt (Nat.lt_succ_self _))
 have I2:=Inv.made (C:=C) I
 have r2:Vals (V.ref (s.heap.objs.size+1) :: (vs++tu)) (Value.ref (s.heap.objs.size+1) :: (us++ds)):=.cons rfl (r.append hd)
 have hl:(Value.ref (s.heap.objs.size+1) :: us++ds).length=ps.length:=by
   have e:=r2.length
   rw [F.len _ _ _ _ hq] at e
   exact e.symm
 refine wpAny_call (Nq (f:=f) I.sV M.makes M.init (beq_iff_eq.mp M.fn) (codeAny_mono (F.run _ X.stack _ _ ⟨Value.ref (s.heap.objs.size+1) :: us,[]⟩ (Value.ref (s.heap.objs.size+1) :: (us++ds)) _ _ E (hr.make C us [])
   (I2.env0.make C us []) (hb _ (Value.ref (s.heap.objs.size+1) :: us) I2.sV hl) r2 hq) fun r s' hq'=>?_))
 cases r with
 | error e=>exact hx pins σ _ _ e s' I2 hq'
 | ok fl =>
   cases fl with
   | ret u =>
     obtain ⟨v,H',I3,rv,ev,q3⟩:=I2.after hq'
     subst ev
     exact ⟨rv,⟨V.ref (s.heap.objs.size+1),H',I3,rfl,q3⟩⟩
   | next=>exact False.elim hq'
   | brk=>exact False.elim hq'
   | cont=>exact False.elim hq'
theorem HX (M:Mk X.K C f) (F:aO X.prog X.w X.K X.mg X.base CX k f fd ps sp) (hr:gM (k+1) X.A) (hg:Gl X x) (hm:X.mg x=some (.ref C)) (hb:Binds X.K fd ps ds) (hd:Vals tu ds) (hx:Passes CX X E)
   (ha:PA X (e :: es) t) (hdb:(x == ("__debug__" : Str))=false:=by decide) (he:starEach (e :: es) X.env=(false,eval e X.env) :: starEach es X.env:=by rfl) (hpl:(backTo pos (starEach es X.env)).any (·.1)=false:=by rfl) :
   PE X (.Call (.Name x p) (e :: es) [] pos) (Wh C sp tu E t):=by
 intro pins s σ H Q I h
 refine wpAny_Call_Name_kw (uy I hg hm ?_ hdb)
 refine PySem.W.callWith_K (h₀:=X.base) I.ok.mod.kin M.kp (cY (ha pos pins s σ H _ I h) fun us s1 ⟨vs,H1,I1,r,q⟩=>⟨I1.sV,?_⟩) he hpl
 exact Nt M F hr hb hd hx I1 r q
end
section
variable {X:Cx} {CX:Mx} {k:Nat} {f C:Addr} {fd:FuncData} {ps ks:List Str} {sp:Sp} {E:XK} {x m:Str} {p pos apos kpos:Pos} {e o:Expr} {es:List Expr} {kws:List Keyword} {te ta:TE} {t tk:TA} {nm:Option Str}
variable {g:List Value->List Value->List Value} {gV:List V->List V->List V}
end
structure bf (N P:List Str) (sc:Scope):Prop where
 kind:sc.kind=.function
 co:sc.isCoroutine=false
 gen:sc.isGenerator=false
 nd:N.Nodup
 pre:N.take P.length=P
 par:∀ x∈P,sc.names.lookup x=some .local∨sc.names.lookup x=some .cell
 Xr:∀ y∈sc.names,y.2≠.free
theorem yE {kindOf:Str->Option NameKind} {x:Str}:∀ {binds:List (Str × Value)} {m:Str->Option Value},(∀ v,(x,v) ∉ binds)->bindL kindOf binds m x=m x
 | [],_,_=>rfl
 | (n,v) :: r,m,h=>by
   unfold bindL
   rw [yE fun w hw=>h w (List.mem_cons_of_mem _ hw)]
   split
   . have:x≠n:=by rintro rfl; exact h v List.mem_cons_self
     simp [this]
   . rfl
theorem yF {kindOf:Str->Option NameKind} {x:Str}:∀ {binds:List (Str × Value)} {m:Str->Option Value},(∀ v,(x,v) ∉ binds)->bindC kindOf binds m x=m x
 | [],_,_=>rfl
 | (n,v) :: r,m,h=>by
   unfold bindC
   rw [yF fun w hw=>h w (List.mem_cons_of_mem _ hw)]
   split
   . rfl
   . have:x≠n:=by rintro rfl; exact h v List.mem_cons_self
     simp [this]
theorem yG {kindOf:Str->Option NameKind} {x:Str} {v:Value}:∀ {P:List Str} {vs:List Value} {i:Nat} {m:Str->Option Value},P.Nodup->P[i]?=some x->vs[i]?=some v->kindOf x=some .local ->
   bindL kindOf (P.zip vs) m x=some v
 | [],_,_,_,_,h,_,_=>by simp at h
 | _ :: _,[],_,_,_,_,h,_=>by simp at h
 | p :: P,w :: vs,0,m,nd,h1,h2,hk=>by
   simp at h1 h2; subst h1; subst h2
   show bindL kindOf ((p,w) :: P.zip vs) m p=_
   unfold bindL
   rw [yE fun v hv=>(List.nodup_cons.mp nd).1 (List.of_mem_zip hv).1,if_pos hk]
   simp
 | p :: P,w :: vs,i+1,m,nd,h1,h2,hk=>by
   show bindL kindOf ((p,w) :: P.zip vs) m x=_
   unfold bindL
   exact yG (i:=i) (List.nodup_cons.mp nd).2 (by simpa using h1) (by simpa using h2) hk
theorem yH {kindOf:Str->Option NameKind} {x:Str} {v:Value}:∀ {P:List Str} {vs:List Value} {i:Nat} {m:Str->Option Value},P.Nodup->P[i]?=some x->vs[i]?=some v->kindOf x≠some .local ->
   bindC kindOf (P.zip vs) m x=some v
 | [],_,_,_,_,h,_,_=>by simp at h
 | _ :: _,[],_,_,_,_,h,_=>by simp at h
 | p :: P,w :: vs,0,m,nd,h1,h2,hk=>by
   simp at h1 h2; subst h1; subst h2
   show bindC kindOf ((p,w) :: P.zip vs) m p=_
   unfold bindC
   rw [yF fun v hv=>(List.nodup_cons.mp nd).1 (List.of_mem_zip hv).1,if_neg hk]
   simp
 | p :: P,w :: vs,i+1,m,nd,h1,h2,hk=>by
   show bindC kindOf ((p,w) :: P.zip vs) m x=_
   unfold bindC
   exact yH (i:=i) (List.nodup_cons.mp nd).2 (by simpa using h1) (by simpa using h2) hk
def start (N:List Str) (vs:List V):St:=vs.map some++List.replicate (N.length-vs.length) none
def JZ (CX:Mx) (P:Program) (w:World) (K:PySem.W.Frag) (mg:Str->Option Value) (base:Heap) (N:List Str) (qual:Str) (scope:Scope) (f:Addr) (cd:Value) (A:Around) (outer:List Env) (s:Shared) (H:Hp) (E:XK):Cx where
 prog:=P
 w:=w
 K:=K
 mg:=mg
 base:=base
 A:=A.deeper (envOfC qual scope s.heap.objs.size f cd)
 N:=N
 s₀:=s
 H₀:=H
 env:=envOfC qual scope s.heap.objs.size f cd
 outer:=outer
 stack:=envOfC qual scope s.heap.objs.size f cd :: outer
 ex:=[]
 calm:=true
 fn:=fun _=>true
 pn:=[]
 xe:=fun e s'=>wpAny (model P w) (A.deeper (envOfC qual scope s.heap.objs.size f cd)) (leaving (envOfC qual scope s.heap.objs.size f cd) e) (fun _ s''=>CX outer H s E e s'') (fun e' s''=>CX outer H s E e' s'') s'
theorem uZ {sc:Scope} {n:Nat} {x:Str} (h:sc.names.lookup x=some .cell):∃ c,(cellsFrom n sc.names []).lookup x=some c:=by
 have q:=PySem.W.cellsFrom_some sc.names n [] (.inl h)
 exact Option.isSome_iff_exists.mp q
theorem J0 {CX:Mx} {P:Program} {w:World} {K:PySem.W.Frag} {mg:Str->Option Value} {base:Heap} {N ps:List Str} {qual:Str} {scope:Scope} {f:Addr} {cd:Value} {A:Around} {outer:List Env} {s s1:Shared} {H:Hp} {E:XK} {us:List Value} {vs:List V}
   (S:bf N ps scope) (hd:A.handled=none) (e0:Ew P w K mg base A outer s H) (hl:vs.length=ps.length) (r:Vals vs us)
   (x:InCallC s s.heap.objs.size (bindL (envOfC qual scope s.heap.objs.size f cd).kindOf (ps.zip us) fun _=>none) (cellsFrom (s.heap.objs.size+1) scope.names []) (bindC (envOfC qual scope s.heap.objs.size f cd).kindOf (ps.zip us) fun _=>none) s1) :
   Inv (JZ CX P w K mg base N qual scope f cd A outer s H E) [] (start N vs) H s1:=by
 have hpl:ps.length<=N.length:=by have:=congrArg List.length S.pre; rw [List.length_take] at this; omega
 obtain ⟨h1,tk,rfl,hk⟩:=x.done
 have noA:∀ b:Addr,b ∉ (JZ CX P w K mg base N qual scope f cd A outer s H E).ex:=fun b z=>absurd (show b∈([]:List Addr) from z) (by simp)
 refine ⟨⟨e0.mod,S.kind,rfl,rfl,Nat.le_refl _,fun y z c h1 h2=>?_,fun y hy=>?_,fun y c _ h=>?_,fun _=>hd,Around.frames_deeper e0.frames,.inr ⟨rfl,rfl⟩,fun b z=>absurd z (noA b),e0.bs,e0.Te,fun b _ _=>noA b,fun b z=>absurd z (noA b),e0.um,e0.W9⟩,
   rfl,e0.bare,Un.kept hk,⟨_,x.toInCall.ns,fun i y v h1 h2 h3=>?_⟩,fun y c h=>⟨_,x.cell y c h⟩,e0.hok.fresh (Nat.le_refl _),fun y c h=>?_,fun p hp=>absurd (show p∈([]:List (Addr × Obj)) from hp) (by simp),e0.hok.kept hk,?_⟩
 . exact name_of_addr x.apart (PySem.mem_of_lookup h1) (PySem.mem_of_lookup h2)
 . have hy:scope.names.lookup y=some .cell∨scope.names.lookup y=some .free:=hy
   rcases hy with hy | hy
   . exact uZ hy
   . exact absurd rfl (S.Xr _ (PySem.mem_of_lookup hy))
 . exact Nat.le_of_lt (x.above y c (PySem.mem_of_lookup h))
 . have hi:i<vs.length:=by
     unfold start at h2
     by_cases hi:i<vs.length
     . exact hi
     . rw [List.getElem?_append_right (by simpa using hi)] at h2
       rw [List.getElem?_replicate] at h2
       split at h2 <;> cases h2
   have ha:vs[i]?=some v:=by
     unfold start at h2
     rw [List.getElem?_append_left (by simpa using hi),List.getElem?_map] at h2
     cases e:vs[i]? with
     | none=>rw [e] at h2; cases h2
     | some a=>rw [e] at h2; cases h2; rfl
   obtain ⟨u,hu,rv⟩:=r.get ha
   have hp:ps[i]?=some y:=by
     rw [<- S.pre,List.getElem?_take_of_lt (by omega)]; exact h1
   have ndP:ps.Nodup:=by rw [<- S.pre]; exact S.nd.sublist (List.take_sublist _ _)
   refine ⟨u,rv,?_⟩
   rcases S.par y (List.mem_of_getElem? hp) with k | k
   . exact .inl ⟨k,yG ndP hp hu k⟩
   . obtain ⟨c,e⟩:=uZ (n:=s.heap.objs.size+1) k
     refine .inr ⟨.inl k,c,e,?_⟩
     have q:=x.cell y c e
     rw [yH ndP hp hu (by show scope.names.lookup y≠_; rw [k]; decide)] at q
     exact q
 . exact e0.hok.fresh (Nat.le_of_lt (x.above y c (PySem.mem_of_lookup h)))
 . unfold start
   show _=N.length
   rw [List.length_append,List.length_map,List.length_replicate]
   omega
theorem aaS {CX:Mx} {P:Program} {w:World} {K:PySem.W.Frag} {mg:Str->Option Value} {base:Heap} {k:Nat} {f:Addr} {name qual:Str} {params:Arguments} {body:List Stmt} {scope:Scope} {dV kV doc pm cdv ct oc:Value} {an od:Option Addr}
   {osl:Array (Option Value)} {N ps:List Str} {sp:Sp} (lk:K.lookup f=some ⟨oc,od,.func (PySem.W.fnOf name qual params body scope dV kV doc pm an cdv ct),osl⟩) (hcd:PySem.W.codeIn K cdv qual=true) (S:bf N ps scope)
   (len:∀ vs H Q E,sp vs H Q E->vs.length=ps.length)
   (hbody:∀ (A:Around) (outer:List Env) (s:Shared) (H:Hp) (vs:List V) (Q:VK) (E:XK),gM k (A.deeper (envOfC qual scope s.heap.objs.size f cdv))->sp vs H Q E ->
     ∃ t,JK (JZ CX P w K mg base N qual scope f cdv A outer s H E) body t/\t { nx:=fun _ H'=>Q .non H',rt:=Q } (start N vs) H) :
   aO P w K mg base CX (k+1) f (PySem.W.fnOf name qual params body scope dV kV doc pm an cdv ct) ps sp:=by
 refine ⟨len,fun A outer s H args us vs Q E hr e0 hb r hsp=>?_⟩
 have hl:=len _ _ _ _ hsp
 have KX:K.In s.heap:=e0.mod.kin.keeps fun b o e=>(e0.bs b o e).1
 have lim:s.heap.NoLimit:=e0.mod.nolimit.keeps fun b o e=>(e0.bs b o e).1
 have hkind:∀ y∈ps.zip us,scope.names.lookup y.1=some .local∨(scope.names.lookup y.1=some .cell/\((cellsFrom (s.heap.objs.size+1) scope.names []).lookup y.1).isSome=true):=fun ⟨n,v⟩ hy=>by
   rcases S.par n (List.of_mem_zip hy).1 with q | q
   . exact .inl q
   . exact .inr ⟨q,PySem.W.cellsFrom_some _ _ _ (.inl q)⟩
 refine codeAny_call_function hr.depth (KX _ _ lk) rfl S.co S.gen rfl (PySem.W.codeRec_of KX hcd) (hb _ _ _ _ ?_)
 refine wpAny_newFunctionEnv_cells S.kind hkind fun env he s1 x=>?_
 subst he
 refine ⟨lim.keeps x.toInCall.keep,codeAny_func ?_⟩
 obtain ⟨t,ht,hq⟩:=hbody A outer s H vs Q E (hr.deeper _) hsp
 have I:Inv (JZ CX P w K mg base N qual scope f cdv A outer s H E) [] (start N vs) H s1:=J0 S hr.hd e0 hl r x
 refine wpAny_mono (ht [] s1 (start N vs) H _ I hq) (fun fl s' hs=>?_) fun e s' hs=>hs
 have fin:∀ {σ':St} {H':Hp} {v:V} {u:Value},Inv (JZ CX P w K mg base N qual scope f cdv A outer s H E) [] σ' H' s'->RelV v u->Q v H'->CE outer P w H s Q u s' :=
   fun {σ' H' v u} J rv q=>⟨v,H',J.os,J.bare,J.base,J.hok,rv,q⟩
 cases fl with
 | ret u =>
   obtain ⟨v,σ',H',J,rv,q⟩:=hs
   exact fin J rv q
 | next =>
   obtain ⟨σ',H',J,q⟩:=hs
   exact fin (v:=V.non) (u:=Value.none) J rfl q
 | brk =>
   obtain ⟨_,_,_,q⟩:=hs
   exact False.elim q
 | cont =>
   obtain ⟨_,_,_,q⟩:=hs
   exact False.elim q
end L2
namespace L2
open PySem PySem.Spec PyProof.Rows
section
variable {X:Cx} {x:Str} {p pos:Pos} {e:Expr} {es:List Expr} {t:TA} {id T:String} {r:List V->Hp->VK->Prop}
def tCB (r:List V->Hp->VK->Prop) (t:TA):TE:=fun σ H Q=>t σ H fun vs H1=>r vs H1 Q
theorem aN (hc:dM X (.builtin id) r) (hg:Gl X x) (hm:X.mg x=none) (hv:bootBuiltins x=some (.builtin id)) (ha:PA X (e :: es) t) (hn:x≠"__name__":=by decide) (hdb:(x == ("__debug__" : Str))=false:=by decide)
   (he:starEach (e :: es) X.env=(false,eval e X.env) :: starEach es X.env:=by rfl) (hpl:(backTo pos (starEach es X.env)).any (·.1)=false:=by rfl):PE X (.Call (.Name x p) (e :: es) [] pos) (tCB r t):=by
 intro pins s σ H Q I h
 refine wpAny_Call_Name_kw (uU I hg hm hv ?_ hn hdb)
 exact PyProof.Rows.callWith_builtin1 (cY (ha pos pins s σ H _ I h) fun us s1 ⟨vs,H1,I1,r1,q1⟩=>hc pins s1 σ H1 vs us Q I1 r1 q1) he hpl
theorem bJ (hc:dM X (.type T) r) (hg:Gl X x) (hm:X.mg x=none) (hv:bootBuiltins x=some (.type T)) (ha:PA X (e :: es) t) (hn:x≠"__name__":=by decide) (hdb:(x == ("__debug__" : Str))=false:=by decide)
   (he:starEach (e :: es) X.env=(false,eval e X.env) :: starEach es X.env:=by rfl) (hpl:(backTo pos (starEach es X.env)).any (·.1)=false:=by rfl):PE X (.Call (.Name x p) (e :: es) [] pos) (tCB r t):=by
 intro pins s σ H Q I h
 refine wpAny_Call_Name_kw (uU I hg hm hv ?_ hn hdb)
 exact PyProof.Rows.callWith_type1 (cY (ha pos pins s σ H _ I h) fun us s1 ⟨vs,H1,I1,r1,q1⟩=>hc pins s1 σ H1 vs us Q I1 r1 q1) he hpl
end
end L2
namespace HT
open PySem PyProof.Rows
theorem Cj (A:Around) (s:Shared) (a:Int) (t:Tok) (c:Int) (u:Tok):∃ e,SeqAt.EqAt A s (.int a t) (.int c u) e/\(e=true↔a=c) :=
 ⟨(a == c),SeqAt.EqAt.int_int a t c u,by simp⟩
section
open PySem.SeqAt
open PySem.AutoSeq1 (wpAny_loadPart')
open PySem.MeetsSeq PySem.MeetsSeq2 PySem.MeetsSeq3
end
section
variable {prog:Program} {w:World} {A:Around} {E:Value->Shared->Prop} {s:Shared}
theorem Tp {t b:Addr} {vs ws:List Value} {Q:Value->Shared->Prop} (ht:IsTup s.heap t vs.toArray) (hb:IsTup s.heap b ws.toArray) (hv:vs≠[])
   (h1:ws=[]->Q (.ref t) s) (h2:ws≠[]->Q (.ref s.heap.objs.size) { s with heap:=s.heap.push { cls:=.type "tuple",data:=.seq (vs++ws).toArray } })
   (hsz:vs.length+ws.length<=sizeLine):wpAny (model prog w) A (binaryOp .Add (.ref t) (.ref b)) Q E s:=by
 obtain ⟨⟨cls,dd,data,sl⟩,ho,hc,n,hd⟩:=id ht
 obtain ⟨⟨cls2,dd2,data2,sl2⟩,ho2,hc2,n2,hd2⟩:=id hb
 simp only at hc hd hc2 hd2
 subst hc hd hc2 hd2
 have e:vs.toArray++ws.toArray=(vs++ws).toArray:=by simp
 by_cases hw:ws=[]
 . exact concat_meets ⟨_,ho,rfl⟩ ⟨_,ho2,rfl⟩ noFill_tuple_add seq_tuple_add PySem.F.slot_tuple_add PySem.F.entry_tuple_add (PySem.F.args_tuple_add_2 _ _)
     (tuple_addW1 t b vs.toArray ws.toArray n n2 dd dd2 sl sl2 (by simpa using hv) (by simp [hw])) ⟨ho,ho2,h1 hw⟩
 . refine concat_meets ⟨_,ho,rfl⟩ ⟨_,ho2,rfl⟩ noFill_tuple_add seq_tuple_add PySem.F.slot_tuple_add PySem.F.entry_tuple_add (PySem.F.args_tuple_add_2 _ _)
     (tuple_addW2 t b vs.toArray ws.toArray n n2 dd dd2 sl sl2 (by simpa using hv) (by simpa using hw) (by rw [List.size_toArray,List.size_toArray]; exact hsz)) ⟨ho,ho2,?_⟩
   rw [e]
   exact h2 hw
def d7 (n d:Nat):Option Int->Nat
 | none=>d
 | some v=>if v<0 then (v+(n:Int)).toNat else min v.toNat n
theorem Ck (n d:Nat):d7 n d none=d:=rfl
theorem nC (n d k:Nat):d7 n d (some (k:Int))=min k n:=by
 show (if (k:Int)<0 then ((k:Int)+(n:Int)).toNat else min (k:Int).toNat n)=min k n
 rw [if_neg (by omega),Int.toNat_natCast]
theorem Xu (n d:Nat) (hd:d<=n) (o:Option Int):d7 n d o<=n:=by
 cases o with
 | none=>exact hd
 | some v =>
   show (if v<0 then (v+(n:Int)).toNat else min v.toNat n)<=n
   by_cases hv:v<0
   . rw [if_pos hv]; omega
   . rw [if_neg hv]; exact Nat.min_le_right _ _
theorem HY (v:Int) (n d:Nat):(if v<0 then max (v+(n:Int)) 0 else min v (n:Int))=((d7 n d (some v):Nat):Int):=by
 show (if v<0 then max (v+(n:Int)) 0 else min v (n:Int))=(((if v<0 then (v+(n:Int)).toNat else min v.toNat n):Nat):Int)
 by_cases hv:v<0
 . simp only [if_pos hv]; omega
 . simp only [if_neg hv]; omega
theorem Ey (lo hi:Option Int) (n:Nat):Builtin.Slice.sliceAdjust lo hi 1 (n:Int)=(((d7 n 0 lo:Nat):Int),((d7 n n hi:Nat):Int)):=by
 have h1:¬ ((1:Int)<0):=by omega
 unfold Builtin.Slice.sliceAdjust
 simp only [h1,if_false]
 refine Prod.ext ?_ ?_
 . cases lo with
   | none=>rfl
   | some v=>exact HY v n 0
 . cases hi with
   | none=>rfl
   | some v=>exact HY v n n
theorem Ez (i j:Nat):Builtin.Slice.slicePlaces (i:Int) (j:Int) 1=j-i:=by
 unfold Builtin.Slice.slicePlaces
 have h1:(1:Int) > 0:=by omega
 simp only [h1,if_true,Int.ediv_one]
 split <;> omega
theorem u0 {v:Value} {o:Option Int} {Q:Option Int->Shared->Prop} (p:IsPart v o) (h:Q o s):wpAny (model prog w) A (Builtin.Slice.slicePartIndex v) Q E s:=by
 cases p with
 | none=>exact slicePart_none h
 | int i t=>exact slicePart_int h
theorem kj {sl:Addr} {vl vu:Value} {lo hi:Option Int} {n:Nat} {Q:Int × Int × Nat->Shared->Prop} (hs:s.heap.IsSliceOf sl vl vu .none) (pl:IsPart vl lo) (pu:IsPart vu hi)
   (h:Q (((d7 n 0 lo:Nat):Int),1,d7 n n hi-d7 n 0 lo) s):wpAny (model prog w) A (Builtin.Slice.sliceApplied (.ref sl) (pure (n:Int))) Q E s:=by
 obtain ⟨os,hos,hcs,hds⟩:=id hs
 unfold Builtin.Slice.sliceApplied Builtin.Slice.sliceFields
 refine wpAny_bind (wpAny_bind (wpAny_field hos hds (x:=vl) rfl (wpAny_bind (wpAny_field hos hds (x:=vu) rfl (wpAny_bind (wpAny_field hos hds (x:=.none) rfl (wpAny_pure ?_)))))))
 refine wpAny_bind (slicePart_none ?_)
 show wpAny _ _ (if ((1:Int) == 0)=true then _ else _) _ _ s
 rw [if_neg (by decide)]
 refine wpAny_bind (u0 pl (wpAny_bind (u0 pu (wpAny_bind (wpAny_pure ?_)))))
 show wpAny _ _ (match Builtin.Slice.sliceAdjust lo hi 1 (n:Int) with | (lo,hi)=>pure (lo,(1:Int),Builtin.Slice.slicePlaces lo hi 1)) _ _ s
 rw [Ey lo hi n]
 show wpAny _ _ (pure (((d7 n 0 lo:Nat):Int),(1:Int),Builtin.Slice.slicePlaces ((d7 n 0 lo:Nat):Int) ((d7 n n hi:Nat):Int) 1)) _ _ s
 rw [Ez]
 exact wpAny_pure h
theorem Nu (xs:Array Value) (i k:Nat):((List.range k).filterMap fun (m:Nat)=>xs[((i:Int)+(m:Int) * 1).toNat]?).toArray=((xs.toList.drop i).take k).toArray:=by
 have e:(fun (m:Nat)=>xs[((i:Int)+(m:Int) * 1).toNat]?)=fun m=>xs[i+m]?:=by
   funext m
   have:((i:Int)+(m:Int) * 1).toNat=i+m:=by omega
   rw [this]
 rw [e]
 have:=pick_run xs i k
 rw [List.filterMap_map] at this
 have e2:((fun x=>xs[x]?)∘fun x=>i+x)=fun m=>xs[i+m]?:=rfl
 rw [e2] at this
 rw [this]
theorem qj {t sl:Addr} {items:Array Value} {vl vu:Value} {lo hi:Option Int} {Q:Value->Shared->Prop} (ht:IsTup s.heap t items) (hs:s.heap.IsSliceOf sl vl vu .none) (pl:IsPart vl lo) (pu:IsPart vu hi)
   (hw:¬ (d7 items.size 0 lo=0/\d7 items.size items.size hi=items.size))
   (h:Q (.ref s.heap.objs.size) { s with heap:=s.heap.push { cls:=.type "tuple",data:=.seq ((items.toList.drop (d7 items.size 0 lo)).take (d7 items.size items.size hi-d7 items.size 0 lo)).toArray } })
   (hsz:items.size<=sizeLine):wpAny (model prog w) A (getItem (.ref t) (.ref sl)) Q E s:=by
 have Ia:sizeOk (.seq ((items.toList.drop (d7 items.size 0 lo)).take (d7 items.size items.size hi-d7 items.size 0 lo)).toArray):=by
   show ((items.toList.drop (d7 items.size 0 lo)).take (d7 items.size items.size hi-d7 items.size 0 lo)).toArray.size<=sizeLine
   rw [List.size_toArray,List.length_take,List.length_drop,Array.length_toList]
   omega
 have hj:d7 items.size items.size hi<=items.size:=Xu _ _ (Nat.le_refl _) hi
 obtain ⟨os,hos,hcs,hds⟩:=id hs
 have hTs:s.TypeIs (.ref sl) "slice":=⟨os,hos,hcs⟩
 unfold getItem
 try with_reducible refine wpAny_holding ?_
 first | refine wpAny_bind (wpAny_pure ?_) | skip
 refine wpAny_bind (wpAny_sequenceKey ht.typeIs (by decide) ?_)
 refine wpAny_bind (wpAny_callSpecial?_slot (name:=Str.ofString "__getitem__") ht.typeIs PyProof.Rows.slot_tuple_getitem
   (wpAny_call_entry PyProof.Rows.slot_tuple_getitem ht.typeIs entry_tuple_getitem ?_ (args_tuple_getitem _ _)))
 show wpAny _ _ (Builtin.Tuple.tupleItemsOf (.ref t) >>= _) _ _ s
 refine wpAny_bind (tupleItemsOf_ ht ?_)
 refine wpAny_bind (wpAny_typeOf hTs ?_)
 rw [if_pos (by decide)]
 refine wpAny_bind (kj hs pl pu ?_)
 have hno:¬ ((((d7 items.size 0 lo:Nat):Int) == 0 && (1:Int) == 1 && (d7 items.size items.size hi-d7 items.size 0 lo) == items.size)=true):=by
   intro q
   rw [Bool.and_eq_true,Bool.and_eq_true] at q
   have q1:((d7 items.size 0 lo:Nat):Int)=0:=eq_of_beq q.1.1
   have q2:d7 items.size items.size hi-d7 items.size 0 lo=items.size:=eq_of_beq q.2
   exact hw ⟨by omega,by omega⟩
 show wpAny _ _ (if (((d7 items.size 0 lo:Nat):Int) == 0 && (1:Int) == 1 && (d7 items.size items.size hi-d7 items.size 0 lo) == items.size)=true then _ else _) _ _ s
 rw [if_neg hno,Nu]
 first
   | exact wpAny_bind (m:=Builtin.Tuple.tupleExact _) (wpAny_newObj_type (wpAny_pure ⟨_,rfl,wpAny_pure h⟩) Ia)
   | exact wpAny_bind (m:=Builtin.Tuple.tupleExact _) (wpAny_newObj_type (wpAny_bind (wpAny_pure (wpAny_pure ⟨_,rfl,wpAny_pure h⟩))) Ia)
   | exact wpAny_bind (wpAny_bind (m:=Builtin.Tuple.tupleExact _) (wpAny_newObj_type (wpAny_pure (wpAny_pure ⟨_,rfl,wpAny_pure h⟩)) Ia))
   | exact wpAny_bind (wpAny_bind (m:=Builtin.Tuple.tupleExact _) (wpAny_newObj_type (wpAny_pure ⟨_,rfl,wpAny_pure h⟩) Ia))
end
end HT
namespace L2
open PySem PySem.Spec PyProof.Rows
abbrev TO:=St->Hp->(Option Int->Hp->Prop)->Prop
def PO (X:Cx) (e:Option Expr) (t:TO):Prop :=
 ∀ (pins:List (Addr × Obj)) (s:Shared) (σ:St) (H:Hp) (Q:Option Int->Hp->Prop),Inv X pins σ H s->t σ H Q ->
   wpAny (model X.prog X.w) X.A (evalPart e X.env) (fun u s'=>∃ o H',Inv X pins σ H' s'/\IsPart u o/\Q o H') X.xe s
def Tq:TO:=fun _ H Q=>Q none H
theorem intsAre_of {ns:List Int}:∀ {us:List Value},Vals (ns.map V.int) us->IntsAre us ns:=by
 induction ns with
 | nil=>intro us r; rw [List.map_nil] at r; cases r; exact .nil
 | cons n ns ih =>
   intro us r
   rw [List.map_cons] at r
   cases r with
   | cons r1 r2 =>
     obtain ⟨t,e⟩:=r1
     subst e
     exact .cons n t (ih r2)
section
variable {X:Cx} {e:Expr} {te:TE} {lo hi:Option Expr} {tl th:TO} {pos p2:Pos}
theorem ql:PO X none Tq:=by
 intro pins s σ H Q I h
 rw [evalPart_none]
 exact wpAny_pure ⟨none,H,I,.none,h⟩
def Z4 (X:Cx) (r:V->Option Int->Option Int->Hp->VK->Prop):Prop :=
 ∀ (pins:List (Addr × Obj)) (s:Shared) (σ:St) (H:Hp) (x:V) (v vl vu:Value) (lo hi:Option Int) (sl:Addr) (Q:VK),Inv X pins σ H s->RelV x v->s.heap.IsSliceOf sl vl vu .none->IsPart vl lo->IsPart vu hi->r x lo hi H Q ->
   ∃ T id,typeLookup (.type T) "__getitem__" = pure (some (.builtin id))/\s.TypeIs v T/\wpAny (model X.prog X.w) X.A (getItem v (.ref sl)) (EP X pins σ Q) X.xe s
def tSl (r:V->Option Int->Option Int->Hp->VK->Prop) (te:TE) (tl th:TO):TE:=fun σ H Q=>te σ H fun x H1=>tl σ H1 fun l H2=>th σ H2 fun u H3=>r x l u H3 Q
theorem iT {r:V->Option Int->Option Int->Hp->VK->Prop} (hr:Z4 X r) (he:PE X e te) (hl:PO X lo tl) (hu:PO X hi th):PE X (.Subscript e (.Slice lo hi none p2) pos) (tSl r te tl th):=by
 intro pins s σ H Q I h
 refine Subscript_ (cY (he pins s σ H _ I h) fun v s1 ⟨x,H1,I1,r1,q1⟩=>?_)
 refine wpAny_Slice (cY (hl pins s1 σ H1 _ I1 q1) fun vl s2 ⟨l,H2,I2,pl,q2⟩=>cY (hu pins s2 σ H2 _ I2 q2) fun vu s3 ⟨u,H3,I3,pu,q3⟩=>?_)
 rw [evalPart_none]
 refine wpAny_pure ?_
 have I4:Inv X pins σ H3 { s3 with heap:=s3.heap.push { cls:=.type "slice",data:=.fields #[vl,vu,.none] } }:=I3.kept (t':=s3.toks) fun b ob q=>Heap.get?_push_of_some _ q
 obtain ⟨T,id,hT,ht,hg⟩:=hr pins { s3 with heap:=s3.heap.push { cls:=.type "slice",data:=.fields #[vl,vu,.none] } } σ H3 x v vl vu l u s3.heap.objs.size Q I4 r1 (Heap.IsSliceOf.new ..) pl pu q3
 show wpAny (model X.prog X.w) X.A (subscriptTail e (.Slice lo hi none p2) v (.ref s3.heap.objs.size)) (EP X pins σ Q) X.xe { s3 with heap:=s3.heap.push { cls:=.type "slice",data:=.fields #[vl,vu,.none] } }
 exact tail_any (ops:=[.ref s3.heap.objs.size,v]) ht hT hg (by with_unfolding_all rfl)
def xT (xs:List V) (lo hi:Option Int):List V:=(xs.drop (HT.d7 xs.length 0 lo)).take (HT.d7 xs.length xs.length hi-HT.d7 xs.length 0 lo)
theorem tD (xs:List V) (lo hi:Option Int):(xT xs lo hi).length<=xs.length:=by
 unfold xT
 rw [List.length_take,List.length_drop]
 omega
def ae6 (K:PySem.W.Frag):V->Option Int->Option Int->Hp->VK->Prop:=fun x lo hi H Q=>∃ a xs,x=.ref a/\bW K H a xs /\
 ¬ (HT.d7 xs.length 0 lo=0/\HT.d7 xs.length xs.length hi=xs.length)/\∀ p,H p=none->Q (.ref p) (upd H p (.tup (xT xs lo hi)))
theorem Xv:Z4 X (ae6 X.K):=by
 intro pins s σ H x v vl vu lo hi sl Q I rx hs pl pu h
 obtain ⟨a,xs,rfl,hx,hw,q⟩:=h
 cases rx
 obtain ⟨its,r,ht,hz⟩:=I.tuple hx
 have hlen:its.toArray.size=xs.length:=by rw [List.size_toArray]; exact r.length.symm
 refine ⟨"tuple",_,PyProof.Rows.slot_tuple_getitem.lookup,ht.typeIs,?_⟩
 refine HT.qj ht hs pl pu (by rw [hlen]; exact hw) ?_ (by rw [hlen]; exact hz)
 rw [hlen]
 refine ⟨.ref s.heap.objs.size,_,I.laid (t':=s.toks) (o:=.tup (xT xs lo hi)) (fun b ob q=>Heap.get?_push_of_some _ q) (Nat.le_refl _) ?_,rfl,q _ (I.hok.fresh (Nat.le_refl _))⟩
 exact ⟨Nat.le_trans (tD xs lo hi) hz,_,(r.drop (HT.d7 xs.length 0 lo)).take (HT.d7 xs.length xs.length hi-HT.d7 xs.length 0 lo),lJ.new _ _⟩
def aaT (K:PySem.W.Frag):R2:=fun x y H Q=>∃ a b xs ys,x=.ref a/\y=.ref b/\bW K H a xs/\bW K H b ys/\xs≠[]/\xs.length+ys.length<=sizeLine /\
 (ys=[]->Q (.ref a) H)/\(ys≠[]->∀ p,H p=none->Q (.ref p) (upd H p (.tup (xs++ys))))
theorem Vals.zW {xs:List V} {us:List Value} (r:Vals xs us):us=[]↔xs=[]:=by
 cases r with
 | nil=>simp
 | cons _ _=>simp
theorem uE:gW X (binaryOp .Add) (aaT X.K):=by
 intro pins s σ H x y v u Q I rx ry h
 obtain ⟨a,b,xs,ys,rfl,rfl,ha,hb,hx,hz,q1,q2⟩:=h
 cases rx
 cases ry
 obtain ⟨its,r1,p1,_⟩:=I.tuple ha
 obtain ⟨its2,r2,p2,_⟩:=I.tuple hb
 refine HT.Tp p1 p2 (fun z=>hx (r1.zW.mp z)) (fun z=>⟨.ref a,H,I,rfl,q1 (r2.zW.mp z)⟩) (fun z=>?_) (by rw [<- r1.length,<- r2.length]; exact hz)
 refine ⟨.ref s.heap.objs.size,_,I.laid (t':=s.toks) (o:=.tup (xs++ys)) (fun b ob q=>Heap.get?_push_of_some _ q) (Nat.le_refl _) ?_,rfl,q2 (fun w=>z (r2.zW.mpr w)) _ (I.hok.fresh (Nat.le_refl _))⟩
 exact ⟨by rw [List.length_append]; exact hz,_,r1.append r2,lJ.new _ _⟩
end
end L2
namespace L2
open PySem PySem.Spec PyProof.Rows
def R9 (n:Nat) (i:Int):Option Nat:=if 0<=i then (if i<n then some i.toNat else none) else if -(n:Int)<=i then some (i+n).toNat else none
def yI {α:Type} (xs:List α) (i:Int):Option α:=(R9 xs.length i).bind fun j=>xs[j]?
theorem Ib {n:Nat} {i:Int} {j:Nat} (h:R9 n i=some j):seqIndex? i n=some j/\j<n/\-(n:Int)<=i/\i<n:=by
 unfold R9 at h
 by_cases h0:0<=i
 . rw [if_pos h0] at h
   by_cases h1:i<n
   . rw [if_pos h1] at h
     have e:i.toNat=j:=Option.some.inj h
     exact ⟨by rw [seqIndex_of h0 h1,e],by omega,by omega,h1⟩
   . rw [if_neg h1] at h; cases h
 . rw [if_neg h0] at h
   by_cases h1:-(n:Int)<=i
   . rw [if_pos h1] at h
     have e:(i+n).toNat=j:=Option.some.inj h
     exact ⟨by rw [seqIndex_neg (by omega) h1,e],by omega,h1,by omega⟩
   . rw [if_neg h1] at h; cases h
theorem zX {α:Type} {xs:List α} {i:Int} {v:α} (h:yI xs i=some v):∃ j,seqIndex? i xs.length=some j/\xs[j]?=some v/\j<xs.length/\-(xs.length:Int)<=i/\i<xs.length:=by
 unfold yI at h
 cases e:R9 xs.length i with
 | none=>rw [e] at h; cases h
 | some j =>
   rw [e] at h
   obtain ⟨h1,h2,h3,h4⟩:=Ib e
   exact ⟨j,h1,h,h2,h3,h4⟩
theorem lN {α:Type} {xs:List α} {j:Nat} {v:α} (h:xs[j]?=some v):yI xs (j:Int)=some v:=by
 have hj:j<xs.length:=(List.getElem?_eq_some_iff.mp h).1
 have e:R9 xs.length (j:Int)=some j:=by
   unfold R9
   rw [if_pos (by omega),if_pos (by omega)]; simp
 unfold yI; rw [e]; exact h
def Tr (b:Expr):Prop:=∀ o i,subscripted b false o i=operate [o,i] (getItem o i)
def Xw (X:Cx) (r:R2):Prop :=
 ∀ (value slice:Expr) (pins:List (Addr × Obj)) (s:Shared) (σ:St) (H:Hp) (x y:V) (v u:Value) (Q:VK),Inv X pins σ H s->RelV x v->RelV y u->r x y H Q ->
   subscripted slice false v u=operate [v,u] (getItem v u)->wpAny (model X.prog X.w) X.A (subscriptTail value slice v u) (EP X pins σ Q) X.xe s
def MtR (X:Cx) (id:String) (r:V->List V->Hp->VK->Prop):Prop :=
 ∀ (pins:List (Addr × Obj)) (s:Shared) (σ:St) (H:Hp) (x:V) (xs:List V) (v:Value) (us:List Value) (Q:VK),Inv X pins σ H s->RelV x v->Vals xs us->r x xs H Q ->
   wpAny (model X.prog X.w) X.A (call (.builtin id) (v :: us)) (EP X pins σ Q) X.xe s
section
variable {X:Cx} {a b:Expr} {ta tb:TE} {pos:Pos}
theorem bI {r:R2} (hr:Xw X r) (ha:PE X a ta) (hb:PE X b tb) (hs:Tr b):PE X (.Subscript a b pos) (Z2 r ta tb):=by
 intro pins s σ H Q I h
 exact Subscript_ (Xj ha hb I h fun v u s2 x y H2 I2 rx ry q=>hr a b pins s2 σ H2 x y v u Q I2 rx ry q (hs _ _))
def aaU (K:PySem.W.Frag):R2:=fun x y H Q=>∃ p xs i v,x=.ref p/\y=.int i/\cT K H p xs/\yI xs i=some v/\Q v H
def aaV (K:PySem.W.Frag):R2:=fun x y H Q=>∃ p xs i v,x=.ref p/\y=.int i/\bW K H p xs/\yI xs i=some v/\Q v H
def aaW:R2:=fun x y H Q=>∃ z i c,x=.str z/\y=.int i/\z.length<=sizeLine/\yI z.cps.toList i=some c/\Q (.str ⟨#[c]⟩) H
theorem Tt:Xw X (aaU X.K):=by
 intro value slice pins s σ H x y v u Q I rx ry h hs
 obtain ⟨p,xs,i,z,rfl,rfl,hq,he,q⟩:=h
 cases rx
 obtain ⟨t,rfl⟩:=ry
 obtain ⟨its,r,pl,hz⟩:=I.list hq
 obtain ⟨j,h1,h2,h3,h4,h5⟩:=zX he
 obtain ⟨w,ew,J1⟩:=r.get h2
 have hl:=r.length
 have hn:=qR
 have fin:EP X pins σ Q w s:=⟨z,H,I,J1,q⟩
 by_cases h0:0<=i
 . have hj:i.toNat=j:=by
     rw [seqIndex_of h0 h5] at h1
     exact Option.some.inj h1
   exact item_listR pl.isList h0 (by omega) (by rw [hj]; simpa using ew) fin hs
 . have hj:(i+(its.toArray.size:Int)).toNat=j:=by
     rw [seqIndex_neg (by omega) h4] at h1
     rw [List.size_toArray,<- hl]
     exact Option.some.inj h1
   exact subscriptTail_builtinR (x:=w) pl.isList.typeIs slot_list_getitem.lookup
     (wpAny_getItem_list_neg (Q:=fun r s'=>r=w/\EP X pins σ Q r s') pl.isList (by omega) (by rw [List.size_toArray] <;> omega) (by omega) (by rw [hj]; simpa using ew) ⟨rfl,fin⟩) hs
theorem Xx:Xw X (aaV X.K):=by
 intro value slice pins s σ H x y v u Q I rx ry h hs
 obtain ⟨p,xs,i,z,rfl,rfl,hq,he,q⟩:=h
 cases rx
 obtain ⟨t,rfl⟩:=ry
 obtain ⟨its,r,pl,hz⟩:=I.tuple hq
 obtain ⟨j,h1,h2,h3,h4,h5⟩:=zX he
 obtain ⟨w,ew,J1⟩:=r.get h2
 have hl:=r.length
 have hn:=qR
 have fin:EP X pins σ Q w s:=⟨z,H,I,J1,q⟩
 exact subscriptTail_builtinR (x:=w) pl.typeIs slot_tuple_getitem.lookup
   (getItem_tuple (j:=j) (Q:=fun r s'=>r=w/\EP X pins σ Q r s') pl (by omega) (by omega) (by rw [List.size_toArray,<- hl]; exact h1) (by simpa using ew) ⟨rfl,fin⟩) hs
theorem Xy:Xw X aaW:=by
 intro value slice pins s σ H x y v u Q I rx ry h hs
 obtain ⟨z,i,c,rfl,rfl,hz,he,q⟩:=h
 obtain ⟨t,rfl⟩:=rx
 obtain ⟨t',rfl⟩:=ry
 obtain ⟨j,h1,h2,h3,h4,h5⟩:=zX he
 have hl:z.cps.toList.length=z.length:=by simp [Str.length]
 rw [hl] at h1 h4 h5
 have hn:=qR
 exact tail_any (typeIs_str s z t) slot_str_getitem.lookup (getItem_str (c:=c) (by
   have e1:decide (i < -(2 ^ 63:Int))=false:=decide_eq_false (by omega)
   have e2:decide (i ≥ 2 ^ 63)=false:=decide_eq_false (by omega)
   rw [e1,e2,Bool.or_false]) (by rw [h1]; simpa using h2) ⟨.str ⟨#[c]⟩,H,I.tok _,⟨_,rfl⟩,q⟩) hs
theorem EY (its:List Value) (n j:Nat) (u:Value):Obj.mapSeq (·.setIfInBounds j u) { cls:=.type "list",data:=.seq its.toArray n }={ cls:=.type "list",data:=.seq (its.set j u).toArray n }:=by
 simp [Obj.mapSeq]
theorem Inv.lst {pins:List (Addr × Obj)} {σ:St} {H:Hp} {s:Shared} {p:Addr} {xs:List V} (I:Inv X pins σ H s) (h:H p=some (.lst xs)) :
   ∃ (its:List Value) (n:Nat),Vals xs its/\s.heap.get? p=some { cls:=.type "list",data:=.seq its.toArray n }/\xs.length<=sizeLine:=by
 obtain ⟨z,its,n,r,e⟩:=I.hok p _ h
 exact ⟨its,n,r,e,z⟩
theorem Inv.Xz {pins:List (Addr × Obj)} {σ:St} {H:Hp} {s:Shared} {p:Addr} {xs ys:List V} {its its':List Value} {n n':Nat} {f:Obj->Obj} (I:Inv X pins σ H s) (h:H p=some (.lst xs))
   (ho:s.heap.get? p=some { cls:=.type "list",data:=.seq its.toArray n }) (hf:f { cls:=.type "list",data:=.seq its.toArray n }={ cls:=.type "list",data:=.seq its'.toArray n' }) (r:Vals ys its') (hz:ys.length<=sizeLine) (t:Nat) :
   Inv X pins σ (upd H p (.lst ys)) { s with heap:=s.heap.update p f,toks:=t }:=by
 have e:(s.heap.update p f).get? p=some { cls:=.type "list",data:=.seq its'.toArray n' }:=by
   rw [Heap.get?_update_self f ho (by rw [hf] <;> rfl),hf]
 refine I.write (x:=p) (e:=p) (by rw [h]; trivial) (.inl rfl) (fun b u hb q=>(Heap.get?_update_other _ _ (Ne.symm hb)).trans q) ⟨_,e⟩ ?_
 exact ⟨hz,its',n',r,e⟩
def Wi:V->V->V->Hp->(Hp->Prop)->Prop:=fun o i v H Q=>∃ p xs k j,o=.ref p/\i=.int k/\H p=some (.lst xs)/\R9 xs.length k=some j/\Q (upd H p (.lst (xs.set j v)))
theorem set_list:Xf X Wi:=by
 intro pins s σ H o i v ov iv u Q I ro ri rv h
 obtain ⟨p,xs,k,j,rfl,rfl,hp,hj,q⟩:=h
 cases ro
 obtain ⟨t,rfl⟩:=ri
 obtain ⟨its,n,r,ho,hz⟩:=I.lst hp
 obtain ⟨h1,h2,h3,h4⟩:=Ib hj
 have hl:=r.length
 have hn:=qR
 have I':Inv X pins σ (upd H p (.lst (xs.set j v))) { s with heap:=s.heap.update p (Obj.mapSeq (·.setIfInBounds j u)) } :=
   I.Xz hp ho (EY its n j u) (r.set rv j) (by rw [List.length_set]; exact hz) s.toks
 by_cases h0:0<=k
 . have hk:k.toNat=j:=by
     rw [seqIndex_of h0 h4] at h1
     exact Option.some.inj h1
   exact PySem.W.ki_setAt ho h0 (by omega) (by rw [List.size_toArray,<- hl]; exact h4) (by rw [hk]; exact ⟨_,I',q⟩)
 . have hk:(k+(its.toArray.size:Int)).toNat=j:=by
     rw [seqIndex_neg (by omega) h3] at h1
     rw [List.size_toArray,<- hl]
     exact Option.some.inj h1
   exact PySem.W.ki_setBack ho (by omega) (by rw [List.size_toArray,<- hl]; exact h3) (by omega) (by rw [hk]; exact ⟨_,I',q⟩)
theorem zY (lo hi:Option Int) (n:Nat):(sliceBounds lo hi none n).1=((HT.d7 n 0 lo:Nat):Int)/\(sliceBounds lo hi none n).2.1=((HT.d7 n n hi:Nat):Int)/\(sliceBounds lo hi none n).2.2=1:=by
 refine ⟨?_,?_,rfl⟩
 . cases lo with
   | none=>simp [sliceBounds,HT.d7]
   | some i =>
     simp only [sliceBounds,HT.d7,Option.getD_none,show (1:Int) > 0 by decide,if_true]
     by_cases h:i<0
     . simp only [h,if_true] <;> omega
     . simp only [h,if_false] <;> omega
 . cases hi with
   | none=>simp [sliceBounds,HT.d7]
   | some i =>
     simp only [sliceBounds,HT.d7,Option.getD_none,show (1:Int) > 0 by decide,if_true]
     by_cases h:i<0
     . simp only [h,if_true] <;> omega
     . simp only [h,if_false] <;> omega
theorem xU (its:List Value) (lo hi:Option Int):slicePick its.toArray lo hi none=((its.drop (HT.d7 its.length 0 lo)).take (HT.d7 its.length its.length hi-HT.d7 its.length 0 lo)).toArray:=by
 obtain ⟨h1,h2,h3⟩:=zY lo hi its.toArray.size
 unfold slicePick
 rw [h1,h2,h3]
 simp only [sliceRange_one,pick_run,List.size_toArray] <;> rfl
def ae7 (K:PySem.W.Frag):V->Option Int->Option Int->Hp->VK->Prop:=fun x lo hi H Q=>∃ a xs,x=.ref a/\cT K H a xs/\∀ p,H p=none->Q (.ref p) (upd H p (.lst (xT xs lo hi)))
theorem Tv:Z4 X (ae7 X.K):=by
 intro pins s σ H x v vl vu lo hi sl Q I rx hs pl pu h
 obtain ⟨a,xs,rfl,hx,q⟩:=h
 cases rx
 obtain ⟨its,r,ht,hz⟩:=I.list hx
 have hlen:=r.length
 refine ⟨"list",_,slot_list_getitem.lookup,ht.isList.typeIs,?_⟩
 refine wpAny_getItem_list_slice ht.isList hs pl pu .none (by simp) ?_ (by rw [List.size_toArray] <;> omega)
 rw [xU,<- hlen]
 refine ⟨.ref s.heap.objs.size,_,I.laid (t':=s.toks) (o:=.lst (xT xs lo hi)) (fun b ob q=>Heap.get?_push_of_some _ q) (Nat.le_refl _) ?_,rfl,q _ (I.hok.fresh (Nat.le_refl _))⟩
 exact ⟨Nat.le_trans (tD xs lo hi) hz,_,0,(r.drop (HT.d7 xs.length 0 lo)).take (HT.d7 xs.length xs.length hi-HT.d7 xs.length 0 lo),Heap.get?_push_size _ rfl⟩
def tE:V->Bool
 | .non=>true
 | .bl _=>true
 | .int _=>true
 | .str _=>true
 | _=>false
def Tw:V->V->Bool
 | .non,.non=>true
 | .bl a,.bl b=>a == b
 | .bl a,.int b=>(if a then 1 else 0) == b
 | .int a,.bl b=>a == (if b then 1 else 0)
 | .int a,.int b=>a == b
 | .str a,.str b=>a == b
 | _,_=>false
theorem XC {A:Around} {s:Shared} {y x:V} {u v:Value} (ry:RelV y u) (rx:RelV x v) (fy:tE y=true) (fx:tE x=true):SeqAt.EqAt A s u v (Tw y x):=by
 cases y with
 | non =>
   cases ry
   cases x with
   | non=>cases rx; exact SeqAt.EqAt.same _
   | bl b=>cases rx; exact SeqAt.EqAt.none_bool b
   | int b=>obtain ⟨t,rfl⟩:=rx; exact SeqAt.EqAt.none_int b t
   | str b=>obtain ⟨t,rfl⟩:=rx; exact SeqAt.EqAt.none_str b t
   | _=>exact absurd (show false=true from fx) Bool.false_ne_true
 | bl a =>
   cases ry
   cases x with
   | non=>cases rx; exact SeqAt.EqAt.bool_none a
   | bl b=>cases rx; exact SeqAt.EqAt.bool_bool a b
   | int b=>obtain ⟨t,rfl⟩:=rx; exact SeqAt.EqAt.bool_int a b t
   | str b=>obtain ⟨t,rfl⟩:=rx; exact SeqAt.EqAt.bool_str a b t
   | _=>exact absurd (show false=true from fx) Bool.false_ne_true
 | int a =>
   obtain ⟨t',rfl⟩:=ry
   cases x with
   | non=>cases rx; exact SeqAt.EqAt.int_none a t'
   | bl b=>cases rx; exact SeqAt.EqAt.int_bool a t' b
   | int b=>obtain ⟨t,rfl⟩:=rx; exact SeqAt.EqAt.int_int a t' b t
   | str b=>obtain ⟨t,rfl⟩:=rx; exact SeqAt.EqAt.int_str a t' b t
   | _=>exact absurd (show false=true from fx) Bool.false_ne_true
 | str a =>
   obtain ⟨t',rfl⟩:=ry
   cases x with
   | non=>cases rx; exact SeqAt.EqAt.str_none a t'
   | bl b=>cases rx; exact SeqAt.EqAt.str_bool a t' b
   | int b=>obtain ⟨t,rfl⟩:=rx; exact SeqAt.EqAt.str_int a t' b t
   | str b=>obtain ⟨t,rfl⟩:=rx; exact SeqAt.EqAt.str_str a t' b t
   | _=>exact absurd (show false=true from fx) Bool.false_ne_true
 | _=>exact absurd (show false=true from fy) Bool.false_ne_true
def Tz (x:V) (u:Value):Bool:=match u with
 | .none=>Tw .non x
 | .bool b=>Tw (.bl b) x
 | .int i _=>Tw (.int i) x
 | .str z _=>Tw (.str z) x
 | _=>false
theorem Nv {x y:V} {u:Value} (r:RelV y u) (f:tE y=true):Tz x u=Tw y x:=by
 cases y with
 | non=>cases r; rfl
 | bl b=>cases r; rfl
 | int i=>obtain ⟨t,rfl⟩:=r; rfl
 | str z=>obtain ⟨t,rfl⟩:=r; rfl
 | _=>exact absurd (show false=true from f) Bool.false_ne_true
theorem zZ {x:V}:∀ {xs:List V} {us:List Value},Vals xs us->xs.all tE=true->us.any (Tz x)=xs.any fun y=>Tw y x
 | _,_,.nil,_=>rfl
 | y :: xs,u :: us,.cons r t,f=>by
   rw [List.all_cons,Bool.and_eq_true] at f
   rw [List.any_cons,List.any_cons,Nv r f.1,zZ t f.2]
theorem u5 {A:Around} {s:Shared} {x:V} {v:Value} (rx:RelV x v) (fx:tE x=true):∀ {xs:List V} {us:List Value},Vals xs us->xs.all tE=true->∀ u∈us,SeqAt.EqAt A s u v (Tz x u)
 | _,_,.nil,_=>fun u hu=>by cases hu
 | y :: xs,u :: us,.cons r t,f=>fun u' hu=>by
   rw [List.all_cons,Bool.and_eq_true] at f
   rcases List.mem_cons.mp hu with rfl | hu
   . rw [Nv r f.1]; exact XC r rx f.1 fx
   . exact u5 rx fx t f.2 u' hu
def inV (x:V) (xs:List V):Bool:=xs.any fun y=>Tw y x
def rIn (K:PySem.W.Frag) (neg:Bool):R2:=fun x y H Q=>∃ p xs,y=.ref p/\(cT K H p xs∨bW K H p xs)/\tE x=true/\xs.all tE=true/\Q (.bl (if neg then !inV x xs else inV x xs)) H
theorem Aa:gW X (compareOp .NotIn) (rIn X.K true):=by
 intro pins s σ H x y v u Q I rx ry h
 obtain ⟨p,xs,rfl,hq,fx,fs,q⟩:=h
 cases ry
 rcases hq with hq | hq
 . obtain ⟨its,r,pl,hz⟩:=I.list hq
   refine SeqAt.notIn_listAt (Tz x) pl.isList (fun w hw=>u5 rx fx r fs w (by simpa using hw)) ⟨.bl _,H,I,rfl,?_⟩
   rw [show its.toArray.any (Tz x)=its.any (Tz x) by simp,zZ r fs]
   exact q
 . obtain ⟨its,r,pl,hz⟩:=I.tuple hq
   refine SeqAt.notIn_tupleAt (Tz x) pl (fun w hw=>u5 rx fx r fs w (by simpa using hw)) ⟨.bl _,H,I,rfl,?_⟩
   rw [show its.toArray.any (Tz x)=its.any (Tz x) by simp,zZ r fs]
   exact q
theorem bZ:dM X (.builtin "len") (fun xs H Q=>∃ p ys,xs=[.ref p]/\(cT X.K H p ys∨bW X.K H p ys)/\Q (.int ys.length) H):=by
 intro pins s σ H xs us Q I r h
 obtain ⟨p,ys,rfl,hq,q⟩:=h
 obtain ⟨u,rfl,rx⟩:=vals1 r
 cases rx
 have hn:=qR
 rcases hq with hq | hq
 . obtain ⟨its,r',pl,hz⟩:=I.list hq
   have hlen:=r'.length
   exact Calls.call_len_list pl.isList (by simp only [List.size_toArray] <;> omega) ⟨.int ys.length,H,I.tok _,⟨s.toks+1,by rw [List.size_toArray,hlen]⟩,q⟩
 . obtain ⟨its,r',pl,hz⟩:=I.tuple hq
   have hlen:=r'.length
   exact len_tuple pl (by simp only [List.size_toArray] <;> omega) ⟨.int ys.length,H,I.tok _,⟨s.toks+1,by rw [List.size_toArray,hlen]⟩,q⟩
theorem Ab:dM X (.builtin "len") (fun xs H Q=>∃ z,xs=[.str z]/\z.length<=sizeLine/\Q (.int z.length) H):=by
 intro pins s σ H xs us Q I r h
 obtain ⟨z,rfl,hz,q⟩:=h
 obtain ⟨u,rfl,t,rfl⟩:=vals1 r
 have hn:=qR
 exact len_str (by omega) ⟨.int z.length,H,I.tok _,⟨_,rfl⟩,q⟩
theorem Ac:dM X (.type "list") (fun xs H Q=>∃ p ys,xs=[.ref p]/\(cT X.K H p ys∨bW X.K H p ys)/\∀ l,H l=none->Q (.ref l) (upd H l (.lst ys))):=by
 intro pins s σ H xs us Q I r h
 obtain ⟨p,ys,rfl,hq,q⟩:=h
 obtain ⟨u,rfl,rx⟩:=vals1 r
 cases rx
 have fin:∀ (its:List Value),Vals ys its->ys.length<=sizeLine->∀ (h':Heap) (c':Nat),(∀ b o',s.heap.get? b=some o'->h'.get? b=some o') ->
     h'.get? s.heap.objs.size=some { cls:=.type "list",dict:=none,data:=.seq its.toArray c',slots:=#[] }->EP X pins σ Q (.ref s.heap.objs.size) { s with heap:=h' }:=fun its r' hz h' c' kp e =>
   ⟨.ref s.heap.objs.size,_,I.laid (t':=s.toks) kp (Nat.le_refl _) (show bQ X.prog X.w _ h' _ (.lst ys) from ⟨hz,its,c',r',e⟩),rfl,q _ (I.hok.fresh (Nat.le_refl _))⟩
 rcases hq with hq | hq
 . obtain ⟨its,r',pl,hz⟩:=I.list hq
   have hlen:=r'.length
   obtain ⟨o,ho,hc,n,hd⟩:=pl.isList
   exact call_list_seq p (.inl rfl) ho hc hd (fun h' c' kp e=>fin its r' hz h' c' kp e) (by simp only [List.size_toArray] <;> omega)
 . obtain ⟨its,r',pl,hz⟩:=I.tuple hq
   have hlen:=r'.length
   obtain ⟨o,ho,hc,n,hd⟩:=pl
   exact call_list_seq p (.inr rfl) ho hc hd (fun h' c' kp e=>fin its r' hz h' c' kp e) (by simp only [List.size_toArray] <;> omega)
theorem bC:dM X (.type "tuple") (fun xs H Q=>∃ p ys,xs=[.ref p]/\((cT X.K H p ys/\∀ l,H l=none->Q (.ref l) (upd H l (.tup ys)))∨(bW X.K H p ys/\Q (.ref p) H))):=by
 intro pins s σ H xs us Q I r h
 obtain ⟨p,ys,rfl,h⟩:=h
 obtain ⟨u,rfl,rx⟩:=vals1 r
 cases rx
 rcases h with ⟨hq,q⟩ | ⟨hq,q⟩
 . obtain ⟨its,r',pl,hz⟩:=I.list hq
   have hlen:=r'.length
   refine call_tuple_list pl.isList (fun h' kp=>?_) (by simp only [List.size_toArray] <;> omega)
   have I1:Inv X pins σ H { s with heap:=h' }:=I.kept (t':=s.toks) kp
   have I2:Inv X pins σ (upd H h'.objs.size (.tup ys)) { s with heap:=h'.push { cls:=.type "tuple",data:=.seq its.toArray } } :=
     I1.laid (t':=s.toks) (fun b o e=>Heap.get?_push_of_some _ e) (Nat.le_refl _) (show bQ X.prog X.w _ _ _ (.tup ys) from ⟨hz,its,r',lJ.new _ _⟩)
   exact ⟨.ref h'.objs.size,_,I2,rfl,q _ (I1.hok.fresh (Nat.le_refl _))⟩
 . obtain ⟨its,r',pl,hz⟩:=I.tuple hq
   exact call_tuple_same pl ⟨.ref p,H,I,rfl,q⟩
def tyV (K:PySem.W.Frag) (T:String) (x:V) (H:Hp):Prop:=match x with
 | .str _=>T = "str"
 | .int _=>T = "int"
 | .ref p=>(T = "list"/\∃ xs,cT K H p xs)∨(T = "tuple"/\∃ o,K.lookup p=some o/\o.cls=.type "tuple"/\o.dict=none) ∨
     (T = "dict"/\((∃ kvs,H p=some (.dK kvs))∨∃ kvs,H p=some (.dT kvs)))∨(T = "set"/\∃ S n,H p=some (.set S n))
 | _=>False
theorem XD {pins:List (Addr × Obj)} {σ:St} {H:Hp} {s:Shared} {T:String} {x:V} {v:Value} (I:Inv X pins σ H s) (r:RelV x v) (ty:tyV X.K T x H) :
   s.TypeIs v T/\∀ a,v=.ref a->∃ ob,s.heap.get? a=some ob/\ob.dict=none:=by
 cases x with
 | str z =>
   obtain ⟨t,rfl⟩:=r
   cases (show T = "str" from ty)
   exact ⟨typeIs_str s z t,fun _ e=>nomatch e⟩
 | int i =>
   obtain ⟨t,rfl⟩:=r
   cases (show T = "int" from ty)
   exact ⟨typeIs_int s i t,fun _ e=>nomatch e⟩
 | ref p =>
   cases r
   rcases ty with ⟨rfl,xs,hq⟩ | ⟨rfl,o,hk,hc,hd⟩ | ⟨rfl,hk⟩ | ⟨rfl,S,n,hk⟩
   . obtain ⟨its,_,pl,_⟩:=I.list hq
     refine ⟨pl.isList.typeIs,fun a e=>?_⟩
     cases e
     obtain ⟨o,n,e,c,hd,_⟩:=pl
     exact ⟨o,e,hd⟩
   . refine ⟨⟨o,I.sV p o hk,hc⟩,fun a e=>?_⟩
     cases e
     exact ⟨o,I.sV _ o hk,hd⟩
   . have z:∃ o,s.heap.get? p=some o/\o.ExactDict:=by
       rcases hk with ⟨kvs,hk⟩ | ⟨kvs,hk⟩
       . obtain ⟨_,_,_,_,o,_,_,e,ex,_⟩:=I.hok p _ hk
         exact ⟨o,e,ex⟩
       . obtain ⟨_,_,_,_,o,_,_,e,ex,_⟩:=I.hok p _ hk
         exact ⟨o,e,ex⟩
     obtain ⟨o,e,ex⟩:=z
     refine ⟨⟨o,e,ex.1⟩,fun a e2=>?_⟩
     cases e2
     exact ⟨o,e,ex.2.1⟩
   . obtain ⟨o,_,_,_,e,ex,_⟩:=I.hok p _ hk
     refine ⟨⟨o,e,ex.1⟩,fun a e2=>?_⟩
     cases e2
     exact ⟨o,e,ex.2.1⟩
 | _=>exact False.elim ty
def tBM (K:PySem.W.Frag) (T:String) (r:V->List V->Hp->VK->Prop) (to:TE) (t:TA):TE:=fun σ H Q=>to σ H fun x H1=>tyV K T x H1/\t σ H1 fun xs H2=>r x xs H2 Q
variable {o e:Expr} {es:List Expr} {to:TE} {t:TA} {name:Str} {apos cpos:Pos} {T id:String} {r:V->List V->Hp->VK->Prop}
theorem qm (pa:PlainAttrs T) (slot:Slot T name id) (hty:typeOf (.builtin id)=pure (.type "method_descriptor")) (hm:MtR X id r) (ho:PE X o to) (ha:PA X (e :: es) t)
   (hbase:attributeBase o name X.env (eval o X.env)=eval o X.env:=by rfl)
   (hfew:((backTo cpos (starEach (e :: es) X.env)).all (fun x=>!x.1) && (backToKw cpos (keywordEach [] X.env)).all (fun x=>x.1.isSome)
     && decide ((e :: es).length+([]:List Keyword).length+(if ([]:List Keyword).isEmpty then 0 else 1)<30))=true:=by rfl)
   (hline:(apos.endLine == cpos.line)=true:=by rfl) (hs:starEach (e :: es) X.env=(false,eval e X.env) :: starEach es X.env:=by rfl) (hplain:(backTo cpos (starEach es X.env)).any (·.1)=false:=by rfl) :
   PE X (.Call (.Attribute o name apos) (e :: es) [] cpos) (tBM X.K T r to t):=by
 intro pins s σ H Q I h
 refine wpAny_Call_method_late hbase hfew hline rfl (cY (ho pins s σ H _ I h) fun v s1 ⟨x,H1,I1,r1,ty,q1⟩=>?_)
 obtain ⟨h1,h2⟩:=XD I1 r1 ty
 refine ⟨T,id,pa,slot,hty,h1,h2,?_⟩
 have hA:=ha cpos pins s1 σ H1 _ I1 q1
 rw [hs] at hA ⊢
 refine Calls.callWith_builtin (by show (false || (backTo cpos (starEach es X.env)).any (·.1))=false; rw [hplain] <;> rfl) (Calls.evalArgs_plain ?_)
 exact cY hA fun us s2 ⟨vs,H2,I2,r2,q2⟩=>hm pins s2 σ H2 x vs v us Q I2 r1 r2 q2
end
end L2
namespace L2
open PySem PySem.Spec PyProof.Rows
def MtM (X:Cx) (id:String) (r:V->List V->Hp->VK->Prop):Prop :=
 ∀ (pins:List (Addr × Obj)) (s:Shared) (σ:St) (H:Hp) (x:V) (xs:List V) (v:Value) (us:List Value) (Q:VK),Inv X pins σ H s->RelV x v->Vals xs us->r x xs H Q ->
   wpAny (model X.prog X.w) X.A (call (.builtin id) (v :: us)) (EP X pins σ Q) X.xe s
theorem Vals.one:∀ {x:V} {us:List Value},Vals [x] us->∃ u,us=[u]/\RelV x u
 | _,_,.cons r .nil=>⟨_,rfl,r⟩
section
variable {X:Cx} {pins:List (Addr × Obj)} {σ:St} {H:Hp} {s:Shared} {l b:Addr} {xs ys zs:List V}
theorem Inv.aaX {its its':List Value} {n:Nat} {f:Array Value->Array Value} {t':Nat} (I:Inv X pins σ H s) (hH:H l=some (.lst xs))
   (e:s.heap.get? l=some { cls:=.type "list",data:=.seq its.toArray n }) (hf:f its.toArray=its'.toArray) (hv:Vals ys its') (hz:ys.length<=sizeLine) :
   Inv X pins σ (upd H l (.lst ys)) { s with heap:=s.heap.update l (Obj.mapSeq f),toks:=t' }:=by
 have q:=PySem.IsL.update e f
 rw [hf] at q
 refine I.write (x:=l) (e:=l) (by rw [hH]; exact trivial) (.inl rfl) (fun b' u hb hu=>(Heap.get?_update_other s.heap (Obj.mapSeq f) (Ne.symm hb)).trans hu) ⟨_,q⟩ ?_
 exact ⟨hz,its',_,hv,q⟩
theorem Inv.aaY {its:List Value} {t':Nat} (I:Inv X pins σ H s) (hv:Vals ys its) (hz:ys.length<=sizeLine) :
   Inv X pins σ (upd H s.heap.objs.size (.lst ys)) { s with heap:=s.heap.push { cls:=.type "list",data:=.seq its.toArray },toks:=t' } :=
 I.laid (fun _ _ q=>Heap.get?_push_of_some _ q) (Nat.le_refl _) ⟨hz,its,0,hv,Heap.get?_push_size _ rfl⟩
theorem Inv.fresh (I:Inv X pins σ H s):H s.heap.objs.size=none:=I.hok.fresh (Nat.le_refl _)
theorem Inv.Ny (I:Inv X pins σ H s) (hH:H l=some (.lst xs)):xs.length<=sizeLine/\∃ (its:List Value) (n:Nat),Vals xs its/\xs.length=its.length/\s.heap.get? l=some { cls:=.type "list",data:=.seq its.toArray n }:=by
 obtain ⟨z,its,n,r,e⟩:=I.hok l _ hH
 exact ⟨z,its,n,r,r.length,e⟩
end
section
variable {X:Cx}
def TF:V->List V->Hp->VK->Prop:=fun x vs H Q=>∃ l xs y,x=.ref l/\vs=[y]/\H l=some (.lst xs)/\xs.length<sizeLine/\Q .non (upd H l (.lst (xs++[y])))
theorem gB:MtM X "list.append" TF:=by
 intro pins s σ H x vs v us Q I rx rv h
 obtain ⟨l,xs,y,rfl,rfl,hH,hz,q⟩:=h
 cases rx
 obtain ⟨u,rfl,ru⟩:=rv.one
 obtain ⟨z,its,n,r,hl,e⟩:=I.Ny hH
 refine call_meets F.slot_list_append ⟨_,e,rfl⟩ F.entry_list_append (F.args_list_append_2 _ _) (PySem.list_append l its.toArray n u (by rw [List.size_toArray]; omega)) ⟨e,?_⟩
 refine ⟨.non,_,I.aaX (its':=its++[u]) hH e (by simp) (r.append (.cons ru .nil)) ?_,rfl,q⟩
 rw [List.length_append,List.length_singleton]
 omega
def ae9:R2:=fun x y H Q=>∃ l b xs zs,x=.ref l/\y=.ref b/\H l=some (.lst xs)/\H b=some (.lst zs)/\xs.length+zs.length<=sizeLine/\∀ p,H p=none->Q (.ref p) (upd H p (.lst (xs++zs)))
theorem Nz:gW X (binaryOp .Add) ae9:=by
 intro pins s σ H x y v u Q I rx ry h
 obtain ⟨l,b,xs,zs,rfl,rfl,hH,hB,hz,q⟩:=h
 cases rx
 cases ry
 obtain ⟨z,its,n,r,hl,e⟩:=I.Ny hH
 obtain ⟨z2,its2,n2,r2,hl2,e2⟩:=I.Ny hB
 refine PySem.P.add_list e e2 ?_ (by rw [List.size_toArray,List.size_toArray]; omega)
 have ea:its.toArray++its2.toArray=(its++its2).toArray:=by simp
 rw [ea]
 exact ⟨.ref _,_,I.aaY (t':=s.toks) (r.append r2) (by rw [List.length_append]; omega),rfl,q _ I.fresh⟩
end
section
variable {prog:Program} {w:World} {A:Around} {E:Value->Shared->Prop} {s:Shared}
end
section
variable {X:Cx}
end
end L2
namespace L2
open PySem PySem.Spec PyProof.Rows
section
variable {κ:Type} [DecidableEq κ]
def cj (kvs:List (κ × V)) (k:κ):Option V:=(kvs.find? fun kv=>decide (kv.1=k)).map (·.2)
def putK (kvs:List (κ × V)) (k:κ) (v:V):List (κ × V) :=
 if (kvs.any fun kv=>decide (kv.1=k))=true then kvs.map (fun kv=>if kv.1=k then (kv.1,v) else kv) else kvs++[(k,v)]
theorem cL {p:κ × V} {r:List (κ × V)} {k:κ} (e:p.1=k):cj (p :: r) k=some p.2:=by simp [cj,List.find?_cons,e]
theorem cD {p:κ × V} {r:List (κ × V)} {k:κ} (e:¬ p.1=k):cj (p :: r) k=cj r k:=by simp [cj,List.find?_cons,e]
theorem iU (k:κ):∀ kvs:List (κ × V),(kvs.any fun kv=>decide (kv.1=k))=(cj kvs k).isSome
 | []=>rfl
 | p :: r=>by
   rw [List.any_cons]
   by_cases e:p.1=k
   . simp only [cL e,decide_eq_true e,Bool.true_or,Option.isSome_some]
   . rw [cD e,decide_eq_false e,Bool.false_or]; exact iU k r
theorem Cm (k j:κ) (y:V):∀ kvs:List (κ × V),cj (kvs.map fun kv=>if kv.1=k then (kv.1,y) else kv) j=(cj kvs j).map fun x=>if j=k then y else x
 | []=>rfl
 | p :: r=>by
   have ih:=Cm k j y r
   rw [List.map_cons]
   by_cases h:p.1=k
   . rw [if_pos h]
     by_cases e:p.1=j
     . rw [cL (p:=(p.1,y)) e,cL e,Option.map_some,if_pos (e.symm.trans h)]
     . rw [cD (p:=(p.1,y)) e,cD e,ih]
   . rw [if_neg h]
     by_cases e:p.1=j
     . rw [cL (p:=p) e,cL e,Option.map_some,if_neg (fun z=>h (e.trans z))]
     . rw [cD (p:=p) e,cD e,ih]
theorem yJ (k j:κ) (y:V):∀ kvs:List (κ × V),cj kvs k=none->cj (kvs++[(k,y)]) j=if j=k then some y else cj kvs j
 | [],_=>by
   by_cases e:k=j
   . rw [if_pos e.symm]; exact cL (p:=(k,y)) e
   . rw [if_neg (fun z=>e z.symm)]; exact cD (p:=(k,y)) e
 | p :: r,hn=>by
   rw [List.cons_append]
   have hk:¬ p.1=k:=fun z=>by rw [cL z] at hn; cases hn
   rw [cD hk] at hn
   have ih:=yJ k j y r hn
   by_cases e:p.1=j
   . rw [cL e,cL e,if_neg (fun z=>hk (e.trans z))]
   . rw [cD e,cD e,ih]
theorem u6 (kvs:List (κ × V)) (k j:κ) (y:V):cj (putK kvs k y) j=if j=k then some y else cj kvs j:=by
 unfold putK
 by_cases a:(kvs.any fun kv=>decide (kv.1=k))=true
 . rw [if_pos a,Cm]
   rw [iU] at a
   by_cases e:j=k
   . obtain ⟨x,hx⟩:=Option.isSome_iff_exists.mp a
     rw [if_pos e,e,hx,Option.map_some,if_pos rfl]
   . rw [if_neg e]
     cases cj kvs j with
     | none=>rfl
     | some x=>rw [Option.map_some,if_neg e]
 . rw [if_neg a]
   refine yJ k j y kvs ?_
   rw [iU] at a
   cases q:cj kvs k with
   | none=>rfl
   | some x=>rw [q] at a; exact (a rfl).elim
theorem gC (kvs:List (κ × V)) (k:κ) (v:V):(putK kvs k v).length<=kvs.length+1:=by
 unfold putK
 split
 . rw [List.length_map]; omega
 . rw [List.length_append,List.length_cons,List.length_nil]; omega
theorem mG.qU {o:Option V} {u:Option Value} (r:mG o u):o.isSome=u.isSome:=by
 cases o with
 | none=>cases u with
   | none=>rfl
   | some _=>exact (show False from r).elim
 | some _=>cases u with
   | none=>exact (show False from r).elim
   | some _=>rfl
theorem mG.getD {o:Option V} {u:Option Value} {d:V} {d':Value} (r:mG o u) (rd:RelV d d'):RelV (o.getD d) (u.getD d'):=by
 cases o with
 | none=>cases u with
   | none=>exact rd
   | some _=>exact (show False from r).elim
 | some _=>cases u with
   | none=>exact (show False from r).elim
   | some _=>exact r
theorem KV.val {kvs:List (κ × V)} {vs:List (κ × Value)} (r:KV kvs vs) (k:κ):mG (cj kvs k) (valueAt vs k):=by
 unfold KV at r
 induction r with
 | nil=>exact True.intro
 | @cons p q ps qs h t ih =>
   obtain ⟨h1,h2⟩:=h
   by_cases e:p.1=k
   . have e':q.1=k:=h1.symm.trans e
     have b:valueAt (q :: qs) k=some q.2:=by simp [valueAt,List.find?_cons,e']
     rw [cL e,b]; exact h2
   . have e':¬ q.1=k:=fun z=>e (h1.trans z)
     have b:valueAt (q :: qs) k=valueAt qs k:=by simp [valueAt,List.find?_cons,e']
     rw [cD e,b]; exact ih
theorem KV.any {kvs:List (κ × V)} {vs:List (κ × Value)} (r:KV kvs vs) (k:κ):(kvs.any fun kv=>decide (kv.1=k))=vs.any fun kv=>decide (kv.1=k):=by
 unfold KV at r
 induction r with
 | nil=>rfl
 | cons h t ih=>rw [List.any_cons,List.any_cons,ih,h.1]
theorem KV.repl {kvs:List (κ × V)} {vs:List (κ × Value)} (r:KV kvs vs) (k:κ) {y:V} {u:Value} (ry:RelV y u) :
   KV (kvs.map fun kv=>if kv.1=k then (kv.1,y) else kv) (vs.map fun kv=>if kv.1=k then (kv.1,u) else kv):=by
 unfold KV at r ⊢
 induction r with
 | nil=>exact .nil
 | @cons p q ps qs h t ih =>
   rw [List.map_cons,List.map_cons]
   refine .cons ?_ ih
   obtain ⟨h1,h2⟩:=h
   by_cases e:p.1=k
   . rw [if_pos e,if_pos (h1.symm.trans e)]; exact ⟨h1,ry⟩
   . rw [if_neg e,if_neg (fun z=>e (h1.trans z))]; exact ⟨h1,h2⟩
theorem KV.put {kvs:List (κ × V)} {vs:List (κ × Value)} (r:KV kvs vs) (k:κ) {y:V} {u:Value} (ry:RelV y u):KV (putK kvs k y) (stored vs k u):=by
 unfold putK stored
 rw [r.any k]
 by_cases e:(vs.any fun kv=>decide (kv.1=k))=true
 . rw [if_pos e,if_pos e]; exact r.repl k ry
 . rw [if_neg e,if_neg e]; exact Paired.snoc r ⟨rfl,ry⟩
theorem KV.keys {kvs:List (κ × V)} {vs:List (κ × Value)} (r:KV kvs vs):kvs.map (·.1)=vs.map (·.1):=by
 unfold KV at r
 induction r with
 | nil=>rfl
 | cons h t ih=>rw [List.map_cons,List.map_cons,ih,h.1]
theorem KV.length {kvs:List (κ × V)} {vs:List (κ × Value)} (r:KV kvs vs):kvs.length=vs.length:=Paired.length r
end
theorem u9 {P:Program} {w:World} {k:Key} {u:Value} (r:RelV (kV k) u):(aK P w).is k u=true:=by
 cases k with
 | inl i=>cases i with
   | none=>cases (show u=Value.none from r); exact zP P w
   | some i=>obtain ⟨t,e⟩:=(show ∃ t,u=Value.int i t from r); subst e; exact BX P w i t
 | inr x=>obtain ⟨t,e⟩:=(show ∃ t,u=Value.str x t from r); subst e; exact iM P w x t
theorem yK {P:Program} {w:World}:∀ {ks:List Key} {us:List Value},Vals (ks.map kV) us->ItemsAre (aK P w) ks us
 | [],_,r=>by rw [List.map_nil] at r; cases r; exact .nil
 | k :: ks,_,r=>by
   rw [List.map_cons] at r
   cases r with
   | cons h t=>exact .cons (u9 h) (yK t)
abbrev KT (H:Hp):List (List Key × V)->List (List Key × Addr × Value)->Prop:=Paired fun p q=>p.1=q.1/\H q.2.1=some (.tup (p.1.map kV))/\RelV p.2 q.2.2
theorem KT.val {H:Hp} {kvs:List (List Key × V)} {xs:List (List Key × Addr × Value)} (r:KT H kvs xs) (k:List Key):mG (cj kvs k) ((atKey xs k).map (·.2)):=by
 induction r with
 | nil=>exact True.intro
 | @cons p q ps qs h t ih =>
   obtain ⟨h1,_,h2⟩:=h
   by_cases e:p.1=k
   . have e':q.1=k:=h1.symm.trans e
     have b:atKey (q :: qs) k=some q.2:=by simp [atKey,List.find?_cons,e']
     rw [cL e,b]; exact h2
   . have e':¬ q.1=k:=fun z=>e (h1.trans z)
     have b:atKey (q :: qs) k=atKey qs k:=by simp [atKey,List.find?_cons,e']
     rw [cD e,b]; exact ih
theorem KT.repl {H:Hp} {kvs:List (List Key × V)} {xs:List (List Key × Addr × Value)} (r:KT H kvs xs) (k:List Key) {y:V} {u:Value} (ry:RelV y u) :
   KT H (kvs.map fun kv=>if kv.1=k then (kv.1,y) else kv) (xs.map (putAt k u)):=by
 induction r with
 | nil=>exact .nil
 | @cons p q ps qs h t ih =>
   rw [List.map_cons,List.map_cons]
   refine .cons ?_ ih
   obtain ⟨h1,h2,h3⟩:=h
   unfold putAt
   by_cases e:p.1=k
   . rw [if_pos e,if_pos (h1.symm.trans e)]; exact ⟨h1,h2,ry⟩
   . rw [if_neg e,if_neg (fun z=>e (h1.trans z))]; exact ⟨h1,h2,h3⟩
theorem KT.put {H:Hp} {kvs:List (List Key × V)} {xs:List (List Key × Addr × Value)} (r:KT H kvs xs) (k:List Key) {b:Addr} {y:V} {u:Value} (hb:H b=some (.tup (k.map kV))) (ry:RelV y u) :
   KT H (putK kvs k y) (storedH xs k b u):=by
 have e:(kvs.any fun kv=>decide (kv.1=k))=(atKey xs k).isSome:=by
   rw [iU,(r.val k).qU,Option.isSome_map]
 unfold putK storedH
 rw [e]
 by_cases q:(atKey xs k).isSome=true
 . rw [if_pos q,if_pos q]; exact r.repl k ry
 . rw [if_neg q,if_neg q]; exact Paired.snoc r ⟨rfl,hb,ry⟩
theorem KT.keeps {H H':Hp} {kvs:List (List Key × V)} {xs:List (List Key × Addr × Value)} (r:KT H kvs xs) (ht:∀ b ys,H b=some (.tup ys)->H' b=some (.tup ys)):KT H' kvs xs :=
 Paired.W8 r fun _ _ z=>⟨z.1,ht _ _ z.2.1,z.2.2⟩
section
variable {P:Program} {w:World} {H:Hp} {h:Heap} {a:Addr}
theorem Wj {u:HO} (ok:pY P w H h) (e:Rd H a u):bQ P w H h a u:=e.ok ok
theorem oN {kvs:List (Key × V)} (ok:pY P w H h) (e:Rd H a (.dK kvs)):kvs.length<=sizeLine/\(a == sysModules)=false/\∃ vs,KV kvs vs/\h.DictOf (aK P w) a vs :=
 show bQ P w H h a (.dK kvs) from Wj ok e
theorem vd {kvs:List (Key × V)} (ok:pY P w H h) (e:H a=some (.dK kvs)):kvs.length<=sizeLine/\(a == sysModules)=false/\∃ vs,KV kvs vs/\h.DictOf (aK P w) a vs:=oN ok (.inl e)
theorem qW {ks:List Key} (ok:pY P w H h) (e:H a=some (.tup (ks.map kV))):(tupleKind (aK P w)).is h ks a:=by
 obtain ⟨_,its,r,o,h1,h2,⟨n,h3⟩,_⟩:=(show bQ P w H h a (.tup (ks.map kV)) from ok a _ e)
 exact ⟨o,its.toArray,n,h1,h2,h3,by simpa using yK r⟩
theorem yL {kvs:List (List Key × V)} (ok:pY P w H h) (e:Rd H a (.dT kvs)):kvs.length<=sizeLine/\(a == sysModules)=false /\
   ∃ xs,KT H kvs xs/\h.DictOfH (tupleKind (aK P w)) a xs:=by
 obtain ⟨z,y,xs,r,o,es,ep,h1,h2,h3,h4,h5⟩:=(show bQ P w H h a (.dT kvs) from Wj ok e)
 refine ⟨z,y,xs,r,o,es,ep,h1,h2,h3,h4,fun x hx=>?_,h5⟩
 have all:∀ {l:List (List Key × V)} {m:List (List Key × Addr × Value)},KT H l m->∀ x∈m,(tupleKind (aK P w)).is h x.1 x.2.1:=by
   intro l m q
   induction q with
   | nil=>intro x hx; exact nomatch hx
   | @cons p q ps qs hq t ih =>
     intro x hx
     rcases List.mem_cons.mp hx with e | hx
     . subst e
       exact qW ok (by rw [<- hq.1]; exact hq.2.1)
     . exact ih x hx
 exact all r x hx
theorem aaZ {kvs:List (List Key × V)} (ok:pY P w H h) (e:H a=some (.dT kvs)):kvs.length<=sizeLine/\(a == sysModules)=false /\
   ∃ xs,KT H kvs xs/\h.DictOfH (tupleKind (aK P w)) a xs:=yL ok (.inl e)
end
def eU (H:Hp) (a:Addr) (y:V) (r:Option V):Prop :=
 (∃ kvs k,Rd H a (.dK kvs)/\y=kV k/\r=cj kvs k)∨∃ kvs k b,Rd H a (.dT kvs)/\y=.ref b/\H b=some (.tup (k.map kV))/\r=cj kvs k
def qX (H:Hp) (a:Addr) (y v:V) (H':Hp):Prop :=
 (∃ kvs k,H a=some (.dK kvs)/\y=kV k/\kvs.length<sizeLine/\H'=upd H a (.dK (putK kvs k v))) ∨
 ∃ kvs k b,H a=some (.dT kvs)/\y=.ref b/\H b=some (.tup (k.map kV))/\kvs.length<sizeLine/\H'=upd H a (.dT (putK kvs k v))
theorem eU.k {H:Hp} {a:Addr} {kvs:List (Key × V)} {k:Key} (e:H a=some (.dK kvs)):eU H a (kV k) (cj kvs k):=.inl ⟨kvs,k,.inl e,rfl,rfl⟩
theorem eU.t {H:Hp} {a b:Addr} {kvs:List (List Key × V)} {k:List Key} (e:H a=some (.dT kvs)) (eb:H b=some (.tup (k.map kV))):eU H a (.ref b) (cj kvs k):=.inr ⟨kvs,k,b,.inl e,rfl,eb,rfl⟩
theorem qX.k {H:Hp} {a:Addr} {kvs:List (Key × V)} {k:Key} {v:V} (e:H a=some (.dK kvs)) (hl:kvs.length<sizeLine):qX H a (kV k) v (upd H a (.dK (putK kvs k v))):=.inl ⟨kvs,k,e,rfl,hl,rfl⟩
theorem qX.t {H:Hp} {a b:Addr} {kvs:List (List Key × V)} {k:List Key} {v:V} (e:H a=some (.dT kvs)) (eb:H b=some (.tup (k.map kV))) (hl:kvs.length<sizeLine) :
   qX H a (.ref b) v (upd H a (.dT (putK kvs k v))):=.inr ⟨kvs,k,b,e,rfl,eb,hl,rfl⟩
section
variable {X:Cx} {pins:List (Addr × Obj)} {σ:St} {H:Hp} {s:Shared} {a:Addr} {y v:V} {u r:Value} {o:Option V} {A:Around} {E:Value->Shared->Prop}
theorem Inv.big (I:Inv X pins σ H s):sysModules<s.heap.objs.size:=by
 have h:mainGlobals<s.heap.objs.size:=(I.mod.glob.keeps I.bk).lt
 exact Nat.lt_trans (by decide) h
theorem J2 {Q:Value->Shared->Prop} (hu:A.units+1<cLine) (I:Inv X pins σ H s) (g:eU H a y (some v)) (ry:RelV y u) (h:∀ w' s',Inv X pins σ H s'->RelV v w'->Q w' s') :
   wpAny (model X.prog X.w) A (getItem (.ref a) u) Q E s:=by
 rcases g with ⟨kvs,k,e,ey,l⟩ | ⟨kvs,k,b,e,ey,eb,l⟩
 . subst ey
   obtain ⟨z,hd,vs,rel,dd⟩:=oN I.hok e
   obtain ⟨w',hw,J1⟩:=mG.some_of (v:=v) (o:=valueAt vs k) (by rw [l]; exact rel.val k)
   exact wpAny_getItem_of (u9 ry) dd.mapOf hw (h w' _ (I.tok _) J1)
 . subst ey
   cases (show u=Value.ref b from ry)
   obtain ⟨z,hd,xs,rel,dd⟩:=yL I.hok e
   obtain ⟨w',hw,J1⟩:=mG.some_of (v:=v) (o:=(atKey xs k).map (·.2)) (by rw [l]; exact rel.val k)
   obtain ⟨p,hp,hp2⟩:=Option.map_eq_some_iff.mp hw
   refine wpAny_getItem_heap (tupleKind_room_in1 hu) (qW I.hok eb) dd hp ?_
   rw [hp2]
   exact h w' _ (I.tok _) J1
theorem afa {Q:Value->Shared->Prop} (hu:A.units+1<cLine) (I:Inv X pins σ H s) (g:eU H a y o) (ry:RelV y u) (h:∀ s',Inv X pins σ H s'->Q (.bool o.isSome) s') :
   wpAny (model X.prog X.w) A (compareOp .In u (.ref a)) Q E s:=by
 rcases g with ⟨kvs,k,e,ey,l⟩ | ⟨kvs,k,b,e,ey,eb,l⟩
 . subst ey
   obtain ⟨z,hd,vs,rel,dd⟩:=oN I.hok e
   refine wpAny_in_of (u9 ry) hd dd.mapOf ?_
   rw [<- (rel.val k).qU,<- l]
   exact h _ (I.tok _)
 . subst ey
   cases (show u=Value.ref b from ry)
   obtain ⟨z,hd,xs,rel,dd⟩:=yL I.hok e
   refine wpAny_in_heap (tupleKind_room_in1 hu) (qW I.hok eb) hd dd ?_
   have q:=(rel.val k).qU
   rw [Option.isSome_map] at q
   rw [<- q,<- l]
   exact h _ (I.tok _)
theorem uF {h':Heap} {t':Nat} {ob:HO} (I:Inv X pins σ H s) (mu:Mut (H a)) (hs:Heap.SameBut a s.heap h') (he:∃ q,h'.get? a=some q) (new:bQ X.prog X.w (upd H a ob) h' a ob) :
   Inv X pins σ (upd H a ob) { s with heap:=h',toks:=t' } :=
 I.write (x:=a) (e:=a) mu (.inl rfl) (fun b q hb z=>(hs.2 b hb).trans z) he new
theorem Ad {P:Program} {w:World} {H':Hp} {h':Heap} {kvs:List (Key × V)} {vs:List (Key × Value)} (z:kvs.length<=sizeLine) (hd:(a == sysModules)=false) (rel:KV kvs vs) (dd:h'.DictOf (aK P w) a vs) :
   bQ P w H' h' a (.dK kvs):=⟨z,hd,vs,rel,dd⟩
theorem J3 {H':Hp} {Q:Unit->Shared->Prop} (hu:A.units+1<cLine) (I:Inv X pins σ H s) (g:qX H a y v H') (ry:RelV y u) (rv:RelV v r) (h:∀ s',Inv X pins σ H' s'->Q () s') :
   wpAny (model X.prog X.w) A (setItem (.ref a) u r) Q E s:=by
 rcases g with ⟨kvs,k,e,ey,l,eH⟩ | ⟨kvs,k,b,e,ey,eb,l,eH⟩
 . subst ey eH
   obtain ⟨z,hd,vs,rel,dd⟩:=vd I.hok e
   have hz:vs.length<=sizeLine:=by rw [<- rel.length]; exact z
   have hl:(putK kvs k v).length<=sizeLine:=by have:=gC kvs k v; omega
   refine wpAny_setItem_pairs (hsz:=hz) (u9 ry) dd fun h' Sg hs=>h _ ?_
   have he:∃ q,h'.get? a=some q:=let ⟨q,_,_,hq,_⟩:=Sg; ⟨q,hq⟩
   exact uF I (by rw [e]; exact True.intro) hs he (Ad hl hd (rel.put k rv) Sg)
 . subst ey eH
   cases (show u=Value.ref b from ry)
   obtain ⟨z,hd,xs,rel,dd⟩:=aaZ I.hok e
   have hz:xs.length<=sizeLine:=by rw [<- Paired.length rel]; exact z
   have hl:(putK kvs k v).length<=sizeLine:=by have:=gC kvs k v; omega
   refine wpAny_setItem_heap (hsz:=hz) (tupleKind_room_in1 hu) (qW I.hok eb) dd fun h' Sg hs=>h _ ?_
   obtain ⟨q,es,ep,hq,h2,h3,h4,_,h5⟩:=Sg
   refine uF I (by rw [e]; exact True.intro) hs ⟨q,hq⟩ ⟨hl,hd,_,(rel.put k eb rv).keeps fun c ys ec=>?_,q,es,ep,hq,h2,h3,h4,h5⟩
   rw [aB (aau ec e (fun z=>nomatch z))]
   exact ec
end
section
variable {X:Cx} {pins:List (Addr × Obj)} {σ:St} {H:Hp} {s:Shared} {a:Addr} {kvs:List (Key × V)} {k:Key} {u:Value} {A:Around} {E:Value->Shared->Prop}
theorem aa0 {Q:Value->Shared->Prop} (I:Inv X pins σ H s) (e:Rd H a (.dK kvs)) (h:∀ t s',Inv X pins σ H s'->Q (.int kvs.length t) s'):wpAny (model X.prog X.w) A (call (.builtin "len") [.ref a]) Q E s:=by
 obtain ⟨z,hd,vs,rel,dd⟩:=oN I.hok e
 refine call_len_dict hd dd (by rw [<- rel.length]; rw [sizeLine_eq] at z; omega) ?_
 rw [<- rel.length]
 exact h _ _ (I.tok _)
end
def aa1 (i:Expr):Prop:=∀ ov iv,subscripted i false ov iv=operate [ov,iv] (getItem ov iv)
theorem TQ {prog:Program} {w:World} {A:Around} {E:Value->Shared->Prop} {s:Shared} {env:Env} {value slice:Expr} {pos:Pos} {T id:String} {Q:Value->Shared->Prop}
   (hl:typeLookup (.type T) "__getitem__" = pure (some (.builtin id))) (hs:aa1 slice)
   (h:wpAny (model prog w) A (eval value env) (fun o s₁=>wpAny (model prog w) A (eval slice env) (fun i s₂=>s₂.TypeIs o T/\wpAny (model prog w) A (getItem o i) Q E s₂) E s₁) E s) :
   wpAny (model prog w) A (eval (.Subscript value slice pos) env) Q E s:=by
 refine Subscript_ (wpAny_mono h (fun o s₁ h₁=>wpAny_mono h₁ (fun i s₂ h₂=>?_) fun _ _ x=>x) fun _ _ x=>x)
 obtain ⟨hT,h₂⟩:=h₂
 unfold subscriptTail
 refine wpAny_bind ?_
 rw [getitemInPython_of_ne hT.not_modules]
 refine wpAny_bind (wpAny_specialOf hT hl ?_)
 have fin:wpAny (model prog w) A (subscripted slice false o i) (fun r s₃=>wpAny (model prog w) A (letTemporaryGo value o r >>= fun _=>pure r) Q E s₃) E s₂:=by
   rw [hs o i]
   exact wpAny_operating (wpAny_mono h₂ (fun r s₃ h₃=>wpAny_bind (wpAny_letTemporaryGo (wpAny_pure h₃))) fun _ _ x=>x)
 first
   | exact wpAny_pure (wpAny_bind fin)
   | exact wpAny_bind (wpAny_pure (wpAny_bind fin))
   | exact wpAny_bind fin
theorem Cp {X:Cx} {pins:List (Addr × Obj)} {σ:St} {H:Hp} {s:Shared} {a:Addr} {y:V} {o:Option V} (I:Inv X pins σ H s) (g:eU H a y o):s.TypeIs (.ref a) "dict":=by
 rcases g with ⟨kvs,k,e,_,_⟩ | ⟨kvs,k,b,e,_,_,_⟩
 . obtain ⟨_,_,vs,_,dd⟩:=oN I.hok e
   exact dd.typeIs
 . obtain ⟨_,_,xs,_,dd⟩:=yL I.hok e
   exact dd.typeIs
def aa2 (td ty:TE):TE:=fun σ H Q=>td σ H fun x H1=>ty σ H1 fun y H2=>∃ a v,x=.ref a/\eU H2 a y (some v)/\Q v H2
def afb (ty td:TE):TE:=fun σ H Q=>ty σ H fun y H1=>td σ H1 fun x H2=>∃ a o,x=.ref a/\eU H2 a y o/\Q (.bl o.isSome) H2
def aa3 (td ty tv:TE):TS:=fun D σ H=>tv σ H fun v H1=>td σ H1 fun x H2=>ty σ H2 fun y H3=>∃ a H4,x=.ref a/\qX H3 a y v H4/\D.nx σ H4
section
variable {X:Cx} {o i e value:Expr} {pos pos' tpos:Pos} {td ty tv:TE}
theorem fO (hu:X.A.units+1<cLine) (ho:PE X o td) (hi:PE X i ty) (hs:aa1 i):PE X (.Subscript o i pos) (aa2 td ty):=by
 intro pins s σ H Q I h
 refine TQ PySem.F.slot_dict_getitem.lookup hs (cY (ho pins s σ H _ I h) fun u s1 ⟨x,H1,I1,rx,q1⟩=>cY (hi pins s1 σ H1 _ I1 q1) fun iv s2 ⟨y,H2,I2,ry,a,v,ex,g,q2⟩=>?_)
 subst ex
 obtain rfl:u=Value.ref a:=rx
 exact ⟨Cp I2 g,J2 hu I2 g ry fun w' s3 I3 J1=>⟨v,H2,I3,J1,q2⟩⟩
theorem lO (hu:X.A.units+1<cLine) (hi:PE X i ty) (ho:PE X o td):PC X .In i o (afb ty td):=by
 intro pins s σ H Q I h
 refine cY (hi pins s σ H _ I h) fun iv s1 ⟨y,H1,I1,ry,q1⟩=>cY (ho pins s1 σ H1 _ I1 q1) fun u s2 ⟨x,H2,I2,rx,a,ov,ex,g,q2⟩=>?_
 subst ex
 obtain rfl:u=Value.ref a:=rx
 exact afa hu I2 g ry fun s3 I3=>⟨.bl ov.isSome,H2,I3,rfl,q2⟩
theorem lQ (hu:X.A.units+1<cLine) (ho:PE X o td) (hi:PE X i ty) (hv:PE X value tv) (hs:swapsWith value (some (.Subscript o i pos')) pos.line X.env=pure false) :
   PS X (.Assign [.Subscript o i pos'] value pos) (aa3 td ty tv):=by
 intro pins s σ H D I h
 refine wpAny_Assign_Subscript (cY (hv pins s σ H _ I h) fun r s1 ⟨v,H1,I1,rv,q1⟩=>cY (ho pins s1 σ H1 _ I1 q1) fun u s2 ⟨x,H2,I2,rx,q2⟩=>cY (hi pins s2 σ H2 _ I2 q2) fun iv s3 ⟨y,H3,I3,ry,a,H4,ex,g,q3⟩=>?_) hs
 subst ex
 obtain rfl:u=Value.ref a:=rx
 exact J3 hu I3 g ry rv fun s4 I4=>⟨σ,H4,I4,q3⟩
end
theorem NK {P:Program} {w:World} {H:Hp} (h:Heap) (hb:sysModules<h.objs.size):bQ P w H (h.push { cls:=.type "dict",data:=.dict #[] }) h.objs.size (.dK []) :=
 ⟨Nat.zero_le _,beq_eq_false_iff_ne.mpr (Ne.symm (Nat.ne_of_lt hb)),[],.nil,Heap.DictOf.new h⟩
theorem NP {P:Program} {w:World} {H:Hp} (h:Heap) (hb:sysModules<h.objs.size):bQ P w H (h.push { cls:=.type "dict",data:=.dict #[] }) h.objs.size (.dT []) :=
 ⟨Nat.zero_le _,beq_eq_false_iff_ne.mpr (Ne.symm (Nat.ne_of_lt hb)),[],.nil,_,#[],0,Heap.get?_push_size _ rfl,⟨rfl,rfl,rfl⟩,rfl,rfl,List.nodup_nil⟩
def XF:TE:=fun _ H Q=>∀ p,H p=none->Q (.ref p) (upd H p (.dK []))
def XH:TE:=fun _ H Q=>∀ p,H p=none->Q (.ref p) (upd H p (.dT []))
section
variable {X:Cx} {pos:Pos}
theorem jD:PE X (.Dict [] [] pos) XF:=fun pins s σ H Q I h =>
 wpAny_Dict_empty ⟨.ref s.heap.objs.size,_,I.laid (a:=s.heap.objs.size) (o:=.dK []) (t':=s.toks) (fun _ _ q=>Heap.get?_push_of_some _ q) (Nat.le_refl _) (NK s.heap I.big),rfl,h _ (I.hok.fresh (Nat.le_refl _))⟩
theorem Cq:PE X (.Dict [] [] pos) XH:=fun pins s σ H Q I h =>
 wpAny_Dict_empty ⟨.ref s.heap.objs.size,_,I.laid (a:=s.heap.objs.size) (o:=.dT []) (t':=s.toks) (fun _ _ q=>Heap.get?_push_of_some _ q) (Nat.le_refl _) (NP s.heap I.big),rfl,h _ (I.hok.fresh (Nat.le_refl _))⟩
end
def oY (kvs more:List (Key × V)):List (Key × V):=more.foldl (fun acc kv=>putK acc kv.1 kv.2) kvs
theorem KV.merge:∀ {more:List (Key × V)} {rs:List (Key × Value)} {kvs:List (Key × V)} {vs:List (Key × Value)},KV more rs->KV kvs vs->KV (oY kvs more) (merged vs rs):=by
 intro more rs kvs vs r
 unfold KV at r
 induction r generalizing kvs vs with
 | nil=>intro q; exact q
 | @cons p q ps qs h t ih =>
   intro r0
   have e:KV (putK kvs p.1 p.2) (stored vs q.1 q.2):=by
     have:=r0.put p.1 h.2
     rw [<- h.1]; exact this
   exact ih e
structure M2 (X:Cx) (o:Expr) (m:Str) (apos:Pos) (e f:Expr) (cpos:Pos):Prop where
 base:attributeBase o m X.env (eval o X.env)=eval o X.env
 few:((backTo cpos (starEach [e,f] X.env)).all (fun x=>!x.1) && (backToKw cpos (keywordEach [] X.env)).all (fun x=>x.1.isSome)
   && decide (([e,f]:List Expr).length+([]:List Keyword).length+(if ([]:List Keyword).isEmpty then 0 else 1)<30))=true
 line:(apos.endLine == cpos.line)=true
 trees:backTo cpos (starEach [e,f] X.env)=[(false,eval e X.env),(false,eval f X.env)]
def IsD (H:Hp) (a:Addr):Prop:=(∃ kvs,Rd H a (.dK kvs))∨∃ kvs,Rd H a (.dT kvs)
theorem Ae {X:Cx} {pins:List (Addr × Obj)} {σ:St} {H:Hp} {s:Shared} {a:Addr} (I:Inv X pins σ H s) (d:IsD H a) :
   s.TypeIs (.ref a) "dict"/\(∀ b,Value.ref a=.ref b->∃ ob,s.heap.get? b=some ob/\ob.dict=none)/\(a == sysModules)=false:=by
 rcases d with ⟨kvs,e⟩ | ⟨kvs,e⟩
 . obtain ⟨_,hd,vs,_,dd⟩:=oN I.hok e
   refine ⟨dd.typeIs,fun b q=>?_,hd⟩
   cases q
   obtain ⟨ob,_,_,h1,h2,_⟩:=dd
   exact ⟨ob,h1,h2.2.1⟩
 . obtain ⟨_,hd,xs,_,dd⟩:=yL I.hok e
   refine ⟨dd.typeIs,fun b q=>?_,hd⟩
   cases q
   obtain ⟨ob,_,_,h1,h2,_⟩:=dd
   exact ⟨ob,h1,h2.2.1⟩
section
variable {X:Cx} {pins:List (Addr × Obj)} {σ:St} {H:Hp} {s:Shared} {a:Addr} {y d:V} {u r:Value} {o:Option V} {A:Around} {E:Value->Shared->Prop}
theorem XJ {Q:Value->Shared->Prop} (hu:A.units+1<cLine) (I:Inv X pins σ H s) (g:eU H a y o) (ry:RelV y u) (rd:RelV d r) (h:∀ w' s',Inv X pins σ H s'->RelV (o.getD d) w'->Q w' s') :
   wpAny (model X.prog X.w) A (call (.builtin "dict.get") [.ref a,u,r]) Q E s:=by
 rcases g with ⟨kvs,k,e,ey,l⟩ | ⟨kvs,k,b,e,ey,eb,l⟩
 . subst ey
   obtain ⟨z,hd,vs,rel,dd⟩:=oN I.hok e
   refine call_meetsIn PySem.F.slot_dict_get dd.typeIs PySem.F.entry_dict_get (PySem.F.args_dict_get_3 _ _ _) (meets_dict_get_default (aK X.prog X.w) a (u9 ry) hd r) ⟨_,dd.mapOf,h _ _ (I.tok _) ?_⟩
   rw [l]
   exact (rel.val k).getD rd
 . subst ey
   cases (show u=Value.ref b from ry)
   obtain ⟨z,hd,xs,rel,dd⟩:=yL I.hok e
   refine call_meetsIn PySem.F.slot_dict_get dd.typeIs PySem.F.entry_dict_get (PySem.F.args_dict_get_3 _ _ _) (meetsH_dict_get_default (tupleKind (aK X.prog X.w)) a b hd r) ⟨tupleKind_room_in1 hu,k,xs,qW I.hok eb,dd,h _ _ (I.tok _) ?_⟩
   rw [l]
   exact (rel.val k).getD rd
end
def XM (td ty tx:TE):TE:=fun σ H Q=>td σ H fun x H1=>∃ a,x=.ref a/\IsD H1 a/\ty σ H1 fun y H2=>tx σ H2 fun z H3=>∃ o,eU H3 a y o/\Q (o.getD z) H3
section
variable {X:Cx} {o e f:Expr} {apos cpos:Pos} {td ty tx:TE}
theorem NQ (hu:X.A.units+1<cLine) (ho:PE X o td) (he:PE X e ty) (hf:PE X f tx) (m:M2 X o "get" apos e f cpos):PE X (.Call (.Attribute o "get" apos) [e,f] [] cpos) (XM td ty tx):=by
 intro pins s σ H Q I h
 refine wpAny_Call_method m.base m.few m.line PySem.F.plainAttrs_dict PySem.F.slot_dict_get PySem.F.type_dict_get (cY (ho pins s σ H _ I h) fun u s1 ⟨x,H1,I1,rx,a,ex,d,q1⟩=>?_)
 subst ex
 obtain rfl:u=Value.ref a:=rx
 obtain ⟨t1,t2,_⟩:=Ae I1 d
 refine ⟨t1,t2,?_⟩
 rw [m.trees]
 refine Calls.callWith_builtin rfl (Calls.evalArgs_plain (Calls.spliced_cons (cY (he pins s1 σ H1 _ I1 q1) fun iv s2 ⟨y,H2,I2,ry,q2⟩ =>
   Calls.spliced_cons (cY (hf pins s2 σ H2 _ I2 q2) fun fv s3 ⟨z,H3,I3,rz,ov,g,q3⟩=>Calls.spliced_nil ?_))))
 exact XJ hu I3 g ry rz fun w' s4 I4 J1=>⟨_,H3,I4,J1,q3⟩
end
section
variable {X:Cx} {pins:List (Addr × Obj)} {σ:St} {H:Hp} {s:Shared} {a:Addr} {kvs:List (Key × V)} {A:Around} {E:Value->Shared->Prop}
end
section
variable {X:Cx} {pins:List (Addr × Obj)} {σ:St} {H:Hp} {s:Shared} {a:Addr} {y:V} {u:Value} {A:Around} {E:Value->Shared->Prop}
end
end L2
namespace Att
open PySem PySem.W PySem.Calls PyProof.Rows
theorem uo {P:Params} {h:Heap}:∀ (ns:List Int) (vs:List Value),WellAll P h vs (ns.map WData.int)->IntsAre vs ns:=by
 intro ns
 induction ns with
 | nil =>
   intro vs w
   rw [List.map_nil] at w
   cases w
   exact .nil
 | cons n ns ih =>
   intro vs w
   rw [List.map_cons] at w
   cases w with
   | cons a b =>
     cases a
     exact .cons _ _ (ih _ b)
theorem J4 {l:OpenLaw} {n:Nat} (hn:l.most=some n) {P:Params} {h:Heap} {args:List WData} {vals:List Value}
   (hpre:l.row.toRowW.claim.pre args=true) (hwl:WellAll P h vals args) :
   ∃ a vs ns,vals=[Value.ref a]/\args=[WData.list (ns.map WData.int)]/\h.get? a=some { cls:=.type "list",data:=.seq vs.toArray }/\IntsAre vs ns/\ns.length<=n:=by
 have hsh:WShape.hasAll [] args [.list .int]=true:=(pre_splitW hpre).1
 have hc:l.pre.holds [] { args:=args }=true:=(pre_splitW hpre).2
 obtain ⟨d,r,rfl,h1,h2⟩:=hasAllW_cons hsh
 obtain rfl:=hasAllW_nil h2
 obtain ⟨xs,rfl,h3⟩:=hasW_list h1
 obtain ⟨ns,rfl⟩:=items_int h3
 have hlen:ns.length<=n:=by
   unfold OpenLaw.pre at hc
   have h4:(WTm.not (.lt (.lit (.int (n:Int))) (.len (.arg 0)))).holds [] { args:=[.list (ns.map .int)] }=true:=by
     have h4:=(holds_andW hc).1
     rw [hn] at h4
     exact h4
   have h5:=condW_of h4 (w_not (w_lt w_lit (w_len_list (w_arg rfl))))
   rw [List.length_map] at h5
   refine Nat.le_of_not_lt fun q=>?_
   have q':(n:Int)<((ns.length:Nat):Int):=by omega
   first
     | (rw [decide_eq_true q'] at h5; exact absurd h5 (by decide))
     | (simp at h5; omega)
 cases hwl with
 | cons w1 w2 =>
   cases w2
   cases w1 with
   | list ho hall=>exact ⟨_,_,ns,rfl,rfl,ho,uo ns _ hall,hlen⟩
theorem J5 (l:OpenLaw) (args:List WData):l.row.toRowW.claim.post args (.bool true) args=true :=
 postW_of (r:=l.row.toRowW) (X:=(true == true))
   (show WShape.has [] (.bool true) .bool=true by first | rfl | decide | simp [WShape.has,WShape.arms,WShape.armsAll])
   (show (WTm.eq .res (.lit (.bool true))).value [] { args:=args,res:=some (.bool true),after:=args }=some (.bool (true == true)) from w_eq_bool (w_res rfl) w_lit) rfl
section
variable {prog:Program} {w:World} {A:Around} {E:Value->Shared->Prop} {s:Shared} {K:Frag}
end
end Att
namespace L2
open PySem PySem.Spec PyProof.Rows
theorem yM:∀ {vs:List Value} {ns:List Int},IntsAre vs ns->Vals (ns.map V.int) vs
 | _,_,.nil=>.nil
 | _,_,.cons n t h=>.cons ⟨t,rfl⟩ (yM h)
def Only (H:Hp):Prop:=∀ b,H b=none∨∃ o xs,H b=some (.iQ o (.lst xs))
theorem NT {P:Program} {w:World} {K:PySem.W.Frag} {mg mb:Str->Option Value} {CX:Mx} {k:Nat} {fa a:Addr} {fd:FuncData} {x:Str} {sp:Sp} {s₁:Shared} {vs:List Value} {ns:List Int}
   (KX:K.In s₁.heap) (hns:s₁.heap.Ns mainGlobals mg) (hb:s₁.heap.Ns builtinsNs mb) (hbb:∀ x:Str,x≠"__name__"->mb x=bootBuiltins x) (hlim:s₁.heap.NoLimit) (hg:s₁.gens=#[])
   (ha:s₁.heap.get? a=some { cls:=.type "list",data:=.seq vs.toArray }) (hi:IntsAre vs ns) (hl:ns.length<=sizeLine) (hr:gM k callerA)
   (F:∀ base:Heap,K.In base->base.Ns mainGlobals mg->aO P w K mg base CX k fa fd [x] sp) (hbind:∀ (s:Shared) (u:Value),BindsTo s fd ⟨[u],[]⟩ [(x,u)])
   (hsp:∀ H:Hp,Only H->cT K H a (ns.map V.int)->sp [.ref a] H (fun v _=>v=.bl true) fun _ _ _=>False)
   (hCX:∀ H e s',CX [] H s₁ (fun _ _ _=>False) e s'->False) :
   codeAny (model P w) callerA (.call (.ref fa) ⟨[.ref a],[]⟩) (fun r s'=>r=.ok (.ret (.bool true))/\OldK s₁.heap s'.heap/\s'.os=s₁.os/\AllBare s'.gens) s₁:=by
 have rv:=yM hi
 have lenV:=hi.length
 -- from an abstract heap in which nothing but the script may be tracked
 have core:∀ H:Hp,Only H->cT K H a (ns.map V.int)->pY P w H s₁.heap->(∀ b,H b≠none->b=a)->(H a≠none->K.lookup a=none) ->
     codeAny (model P w) callerA (.call (.ref fa) ⟨[.ref a],[]⟩) (fun r s'=>r=.ok (.ret (.bool true))/\OldK s₁.heap s'.heap/\s'.os=s₁.os/\AllBare s'.gens) s₁:=by
   intro H hO hS hok hA hK
   have Ie:∀ {b:Addr} {o:Obj},s₁.heap.get? b=some o->H b=none->(zT s₁.heap H).get? b=some o:=fun e n=>M7 e n
   have noA:∀ {b:Addr} {o:Obj} {es:Array DictEntry} {ep:Nat},s₁.heap.get? b=some o->o.data=.dict es ep->H b=none:=fun {b o es ep} e d=>by
     cases q:H b with
     | none=>rfl
     | some u =>
       have e':b=a:=hA b (by rw [q]; simp)
       subst e'
       rw [ha] at e; cases e
       have d':Data.seq vs.toArray _=Data.dict es ep:=d
       cases d'
   have nsK:∀ {b:Addr} {m:Str->Option Value},s₁.heap.Ns b m->(zT s₁.heap H).Ns b m:=fun {b m} ⟨o,es,ep,e,d,r⟩=>⟨o,es,ep,Ie e (noA e d),d,r⟩
   have hKb:K.In (zT s₁.heap H):=fun b o e=>Ie (KX b o e) (by
     cases q:H b with
     | none=>rfl
     | some u =>
       have e':b=a:=hA b (by rw [q]; simp)
       subst e'
       rw [hK (by rw [q]; simp)] at e; cases e)
   have hM:Mod K mg (zT s₁.heap H):=⟨hKb,nsK hns,⟨mb,nsK hb,hbb⟩,let ⟨mc,h1,h2⟩:=hlim; ⟨mc,nsK h1,h2⟩⟩
   have e0:Ew P w K mg (zT s₁.heap H) callerA [] s₁ H:=⟨rfl,hM,fun b o e=>Td e,Nat.le_of_eq (JH _ _),trivial,fun b hb=>absurd (show b∈([]:List Addr) from hb) (by simp),hok,.of_eq hg⟩
   refine codeAny_mono ((F _ hKb (nsK hns)).run callerA [] s₁ H ⟨[.ref a],[]⟩ [.ref a] [.ref a] _ _ hr e0 (hbind s₁ (.ref a)) (.cons rfl .nil) (hsp H hO hS)) fun r s' h=>?_
   cases r with
   | error e=>exact (hCX H e s' h).elim
   | ok fl =>
     cases fl with
     | next=>exact False.elim h
     | brk=>exact False.elim h
     | cont=>exact False.elim h
     | ret u =>
       obtain ⟨v,H',os,bare,un,hok',r',q⟩:=h
       have q':v=.bl true:=q
       subst q'
       obtain rfl:u=Value.bool true:=r'
       refine ⟨rfl,OldK.of_keep fun b o e=>?_,os,bare⟩
       cases q:H b with
       | none=>exact un.keep b o e q (by intro z; exact absurd (show b∈([]:List Addr) from z) (by simp)) (by simp)
       | some u =>
         rcases hO b with z | ⟨ob,xs,z⟩
         . rw [q] at z; cases z
         . have z2:=un.xR b ob _ z
           obtain ⟨e1,_⟩:=hok b _ z
           obtain ⟨e2,_⟩:=hok' b _ z2
           rw [e] at e1; cases e1
           exact e2
 cases hk:K.lookup a with
 | some o =>
   -- the script is one of the module's own objects
   have e:=KX a o hk
   rw [ha] at e
   cases e
   refine core (fun _=>none) (fun _=>.inl rfl) (.inr ⟨_,vs.toArray,_,hk,rfl,rfl,rfl,by rw [List.size_toArray,lenV]; exact hl,by simpa using rv⟩) (fun b u z=>by have z':(none:Option HO)=some u:=z; cases z') (fun b z=>absurd rfl z) fun z=>absurd rfl z
 | none =>
   refine core (fun b=>if b=a then some (.iQ { cls:=.type "list",data:=.seq vs.toArray } (.lst (ns.map V.int))) else none) (fun b=>?_) (.inl (.inr ⟨{ cls:=.type "list",data:=.seq vs.toArray },if_pos rfl⟩)) (fun b u z=>?_) (fun b z=>?_) fun _=>hk
   . by_cases hb:b=a
     . exact .inr ⟨_,_,if_pos hb⟩
     . exact .inl (if_neg hb)
   . by_cases hb:b=a
     . have z':=(if_pos hb).symm.trans z
       cases z'
       subst hb
       exact ⟨ha,by rw [List.length_map]; exact hl,vs,_,rv,ha⟩
     . have z':=(if_neg hb).symm.trans z
       cases z'
   . by_cases hb:b=a
     . exact hb
     . exact absurd (if_neg hb) z
end L2
namespace L2
open PySem PySem.Spec PyProof.Rows
end L2
namespace L2
open PySem PySem.Spec PyProof.Rows
def inClass (s:Stmt) (j:Nat):Stmt:=match s with
 | .ClassDef _ _ _ body _ _ _ _ _ _ _=>body.getD j (.Pass ⟨0,0,0,0⟩)
 | _=>.Pass ⟨0,0,0,0⟩
def aX (s:Stmt):Arguments:=match s with
 | .FunctionDef _ a _ _ _ _ _ _ _ _=>a
 | _=>{ posonlyargs:=[],args:=[],vararg:=none,kwonlyargs:=[],kw_defaults:=[],kwarg:=none,defaults:=[] }
def aV (s:Stmt):List Stmt:=match s with
 | .FunctionDef _ _ b _ _ _ _ _ _ _=>b
 | _=>[]
def aD (s:Stmt):Scope:=match s with
 | .FunctionDef _ _ _ _ _ _ sc _ _ _=>sc
 | _=>{ kind:=.function,names:=[],isGenerator:=false,isCoroutine:=false }
abbrev cg:Mx:=fun _ _ _ _ _ _=>False
abbrev E0:XK:=fun _ _ _=>False
theorem aP {X:Cx}:Passes cg X E0:=fun _ _ _ _ _ _ _ h=>h.elim
structure mK (K:PySem.W.Frag) (x qual:Str) (st:Stmt) (f:Addr) (fd:FuncData):Prop where
 ex:∃ (oc:Value) (od:Option Addr) (kV doc pm:Value) (an:Option Addr) (cdv ct:Value) (osl:Array (Option Value)),
   fd=PySem.W.fnOf x qual (aX st) (aV st) (aD st) .none kV doc pm an cdv ct/\K.lookup f=some ⟨oc,od,.func fd,osl⟩/\PySem.W.codeIn K cdv qual=true
 kp:PySem.W.keepIn K (.ref f)=true
section
variable {P:Program} {w:World} {K:PySem.W.Frag} {mg:Str->Option Value} {base:Heap}
theorem mK.ok {x qual:Str} {st:Stmt} {f:Addr} {fd:FuncData} {N ps:List Str} {k:Nat} {sp:Sp} (F:mK K x qual st f fd) (S:bf N ps (aD st)) (len:∀ vs H Q E,sp vs H Q E->vs.length=ps.length)
   (hbody:∀ (cdv:Value) (A:Around) (outer:List Env) (s:Shared) (H:Hp) (vs:List V) (Q:VK) (E:XK),gM k (A.deeper (envOfC qual (aD st) s.heap.objs.size f cdv))->sp vs H Q E ->
     ∃ t,JK (JZ cg P w K mg base N qual (aD st) f cdv A outer s H E).nox (aV st) t/\t { nx:=fun _ H'=>Q .non H',rt:=Q } (start N vs) H):aO P w K mg base cg (k+1) f fd ps sp:=by
 obtain ⟨oc,od,kV,doc,pm,an,cdv,ct,osl,rfl,lk,hcd⟩:=F.ex
 refine aaS lk hcd S len fun A outer s H vs Q E hr hsp=>?_
 obtain ⟨t,h,q⟩:=hbody cdv A outer s H vs Q E hr hsp
 exact ⟨t,h.nox,q⟩
theorem mK.binds {x qual:Str} {st:Stmt} {f:Addr} {fd:FuncData} {ps:List Str} (F:mK K x qual st f fd)
   (h:∀ (kV doc pm:Value) (an:Option Addr) (cdv ct:Value) (us:List Value),us.length=ps.length->bindArgs (PySem.W.fnOf x qual (aX st) (aV st) (aD st) .none kV doc pm an cdv ct) ⟨us,[]⟩=pure (ps.zip us)):Binds K fd ps []:=by
 obtain ⟨oc,od,kV,doc,pm,an,cdv,ct,osl,rfl,lk,hcd⟩:=F.ex
 exact .all (h kV doc pm an cdv ct)
theorem bU {x qual:Str} {st:Stmt} {f:Addr} {oc:Value} {od an:Option Addr} {osl:Array (Option Value)} {kV doc pm cdv ct:Value} (l:K.lookup f=some ⟨oc,od,.func (PySem.W.fnOf x qual (aX st) (aV st) (aD st) .none kV doc pm an cdv ct),osl⟩)
   (c:PySem.W.codeIn K cdv qual=true) (k:PySem.W.keepIn K (.ref f)=true):mK K x qual st f (PySem.W.fnOf x qual (aX st) (aV st) (aD st) .none kV doc pm an cdv ct):=⟨⟨oc,od,kV,doc,pm,an,cdv,ct,osl,rfl,l,c⟩,k⟩
end
theorem cU {A:Around} {k:Nat} (hr:gM k A):A.units+1<cLine:=Nat.lt_of_le_of_lt (Nat.add_le_add_left (by decide:1<=64) _) hr.units
section
variable {X:Cx}
end
theorem XQ {A B:Prop} (h:B):if false=true then A else B:=by
 rw [if_neg Bool.false_ne_true]
 exact h
theorem afg {A B:Prop} (h:A):if true=true then A else B:=by
 rw [if_pos rfl]
 exact h
theorem fP {c A B:Prop} [Decidable c] (h1:c->A) (h2:¬ c->B):if c then A else B:=by
 by_cases h:c
 . rw [if_pos h]
   exact h1 h
 . rw [if_neg h]
   exact h2 h
def Same (H H':Hp):Prop:=∀ b o,H b=some o->H' b=some o
theorem Same.refl (H:Hp):Same H H:=fun _ _ h=>h
theorem Same.trans {H H1 H2:Hp} (a:Same H H1) (b:Same H1 H2):Same H H2:=fun c o h=>b c o (a c o h)
theorem Same.free {H H':Hp} (e:Same H H') {l:Addr} (h:H' l=Option.none):H l=Option.none:=by
 cases q:H l with
 | none=>rfl
 | some o =>
   rw [e l o q] at h
   cases h
end L2
namespace L2
open PySem PySem.Spec PyProof.Rows
section
variable {X:Cx}
theorem qY:dM X (.builtin "len") (fun xs H Q=>∃ a kvs,xs=[V.ref a]/\H a=some (.dK kvs)/\Q (.int kvs.length) H):=by
 intro pins s σ H xs us Q I r h
 obtain ⟨a,kvs,rfl,ha,q⟩:=h
 obtain ⟨u,rfl,ru⟩:=vals1 r
 cases ru
 exact aa0 I (.inl ha) fun t s' I'=>⟨.int kvs.length,H,I',⟨t,rfl⟩,q⟩
end
section
variable {κ:Type} [DecidableEq κ]
theorem TV {kvs:List (κ × V)} {k:κ} {v:V} (h:cj kvs k=some v):k∈kvs.map (·.1):=by
 have q:(kvs.any fun kv=>decide (kv.1=k))=true:=by
   rw [iU,h]
   all_goals rfl
 obtain ⟨p,hp,e⟩:=List.any_eq_true.mp q
 exact List.mem_map.mpr ⟨p,hp,of_decide_eq_true e⟩
end
end L2
set_option maxHeartbeats 4000000
namespace L2
open PySem PySem.Spec PyProof.Rows
def kE (scope sc:Scope):Scope :=
 { scope with names:=scope.names.map fun (n,k)=>if (k == .free && sc.kind == .function && sc.names.lookup n == some .cell) then (n,.cell) else (n,k) }
structure BI where
 cells:List (Str × Addr)
 C:Addr
 s:Shared
 H:Hp
 fp:List Addr
 pins:List (Addr × Obj)
def Fb (scope:Scope) (cells:List (Str × Addr)) (C:Addr) (env:Env):Env :=
 { scope:=kE scope env.scope,locals:=C,globals:=env.globals,cells:=cells,qual:=env.qual,func:=none,code:=env.code,frame:=env.frame,builtins:=env.builtins }
def blk (X:Cx) (scope:Scope) (N:List Str) (b:BI):Cx where
 prog:=X.prog
 w:=X.w
 K:=X.K
 mg:=X.mg
 base:=X.base
 A:=X.A
 N:=N
 s₀:=b.s
 H₀:=b.H
 env:=Fb scope b.cells b.C X.env
 outer:=X.stack
 stack:=X.stack
 ex:=b.fp
 fn:=fun x=>scope.names.lookup x == some .cell
 calm:=X.calm
 pn:=X.pn++b.pins
 xe:=fun _ _=>False
def eY (env:Env):List (Str × NameKind)->List (Str × Addr)->List (Str × Addr)
 | [],acc=>acc
 | (n,k) :: r,acc=>if k == .free then eY env r ((n,(env.cells.lookup n).getD 0) :: acc) else eY env r acc
theorem oZ (env:Env) (f:Str × NameKind->List (Str × Addr)->Sem (ForInStep (List (Str × Addr))))
   (hf:∀ n k cs,f (n,k) cs=if k == .free then (cellOf env n >>= fun a=>pure (.yield ((n,a) :: cs))) else pure (.yield cs)) :
   ∀ (names:List (Str × NameKind)) (acc:List (Str × Addr)),(∀ y∈names,y.2=.free->∃ c,env.cells.lookup y.1=some c)->forIn names acc f=(pure (eY env names acc):Sem _)
 | [],acc,_=>by rw [List.forIn_nil]; rfl
 | (n,k) :: r,acc,h=>by
   rw [List.forIn_cons,hf]
   have hr:∀ y∈r,y.2=.free->∃ c,env.cells.lookup y.1=some c:=fun y hy=>h y (List.mem_cons_of_mem _ hy)
   cases hk:k == NameKind.free with
   | true =>
     obtain ⟨c,hc⟩:=h (n,k) List.mem_cons_self (beq_iff_eq.mp hk)
     have e1:cellOf env n=pure c:=by unfold cellOf; rw [show env.cells.lookup n=some c from hc]
     have e2:eY env ((n,k) :: r) acc=eY env r ((n,c) :: acc):=by
       show (if (k == NameKind.free)=true then _ else _)=_
       rw [if_pos hk,show env.cells.lookup n=some c from hc]; rfl
     rw [e2,if_pos rfl,e1]
     exact oZ env f hf r ((n,c) :: acc) hr
   | false =>
     have e2:eY env ((n,k) :: r) acc=eY env r acc:=by
       show (if (k == NameKind.free)=true then _ else _)=_
       rw [if_neg (by rw [hk]; exact Bool.false_ne_true)]
     rw [e2,if_neg Bool.false_ne_true]
     exact oZ env f hf r acc hr
theorem xV {scope:Scope} {env:Env} (h:∀ y∈scope.names,y.2=.free->∃ c,env.cells.lookup y.1=some c):closureFor scope env=pure (eY env scope.names []):=by
 simp only [closureFor]
 rw [oZ env _ (fun n k cs=>by cases hk:k == NameKind.free <;> simp [hk]) scope.names [] h]
 rfl
theorem jT {env:Env} {x:Str} {c:Addr}:∀ (names:List (Str × NameKind)) (acc:List (Str × Addr)),(eY env names acc).lookup x=some c->acc.lookup x=some c∨((x,NameKind.free)∈names/\c=(env.cells.lookup x).getD 0)
 | [],_,h=>.inl h
 | (n,k) :: r,acc,h=>by
   unfold eY at h
   by_cases hk:(k == NameKind.free)=true
   . rw [if_pos hk] at h
     rcases jT r _ h with z | ⟨z,e⟩
     . rw [List.lookup_cons] at z
       cases hx:x == n with
       | true =>
         rw [hx] at z
         have e1:x=n:=beq_iff_eq.mp hx
         have e2:k=NameKind.free:=beq_iff_eq.mp hk
         exact .inr ⟨by rw [e1,e2]; exact List.mem_cons_self,by rw [e1]; exact (Option.some.inj z).symm⟩
       | false=>rw [hx] at z; exact .inl z
     . exact .inr ⟨List.mem_cons_of_mem _ z,e⟩
   . rw [if_neg hk] at h
     rcases jT r _ h with z | ⟨z,e⟩
     . exact .inl z
     . exact .inr ⟨List.mem_cons_of_mem _ z,e⟩
theorem pA {env:Env} {x:Str}:∀ (names:List (Str × NameKind)) (acc:List (Str × Addr)),((x,NameKind.free)∈names∨∃ c,acc.lookup x=some c)->∃ c,(eY env names acc).lookup x=some c
 | [],_,h=>h.elim (fun z=>nomatch z) fun z=>z
 | (n,k) :: r,acc,h=>by
   unfold eY
   by_cases hk:(k == NameKind.free)=true
   . rw [if_pos hk]
     refine pA r _ ?_
     by_cases hx:x=n
     . exact .inr ⟨_,by rw [List.lookup_cons,beq_iff_eq.mpr hx]⟩
     . rcases h with z | ⟨c,z⟩
       . rcases List.mem_cons.mp z with e | z
         . exact absurd (congrArg Prod.fst e) hx
         . exact .inl z
       . exact .inr ⟨c,by rw [List.lookup_cons,beq_eq_false_iff_ne.mpr hx]; exact z⟩
   . rw [if_neg hk]
     refine pA r _ ?_
     rcases h with z | z
     . rcases List.mem_cons.mp z with e | z
       . have e2:NameKind.free=k:=congrArg Prod.snd e
         exact absurd (beq_iff_eq.mpr e2.symm) hk
       . exact .inl z
     . exact .inr z
theorem dw:∀ (names:List (Str × NameKind)) (n:Nat) (acc:List (Str × Addr)),cellsFrom n names acc=cellsFrom n names []++acc
 | [],_,_=>rfl
 | (x,k) :: r,n,acc=>by
   unfold cellsFrom
   split
   . rw [dw r (n+1) ((x,n) :: acc),dw r (n+1) [(x,n)],List.append_assoc]; rfl
   . exact dw r n acc
theorem gO {x:Str} {c:Addr}:∀ (names:List (Str × NameKind)) (n:Nat) (acc:List (Str × Addr)),(x,c)∈cellsFrom n names acc->(x,c)∈acc∨(x,NameKind.cell)∈names
 | [],_,_,h=>.inl h
 | (y,k) :: r,n,acc,h=>by
   unfold cellsFrom at h
   split at h
   . rename_i hk
     rcases gO r _ _ h with z | z
     . rcases List.mem_cons.mp z with e | z
       . have e1:x=y:=congrArg Prod.fst e
         rw [e1,<- beq_iff_eq.mp hk]; exact .inr List.mem_cons_self
       . exact .inl z
     . exact .inr (List.mem_cons_of_mem _ z)
   . rcases gO r _ _ h with z | z
     . exact .inl z
     . exact .inr (List.mem_cons_of_mem _ z)
theorem lookup_append {α:Type} {x:Str}:∀ (l m:List (Str × α)),(l++m).lookup x=match l.lookup x with | some c=>some c | none=>m.lookup x
 | [],m=>rfl
 | (y,c) :: l,m=>by
   rw [List.cons_append,List.lookup_cons,List.lookup_cons]
   cases x == y with
   | true=>rfl
   | false=>exact lookup_append l m
theorem mQ {α:Type} {x:Str}:∀ {l:List (Str × α)},(∀ c,(x,c) ∉ l)->l.lookup x=none
 | [],_=>rfl
 | (y,c) :: l,h=>by
   rw [List.lookup_cons]
   have hx:x≠y:=fun e=>h c (by rw [e]; exact List.mem_cons_self)
   rw [beq_eq_false_iff_ne.mpr hx]
   exact mQ fun c hc=>h c (List.mem_cons_of_mem _ hc)
theorem oO {sc:Scope} {x:Str}:∀ (names:List (Str × NameKind)),(names.map fun (n,k)=>if (k == NameKind.free && sc.kind == .function && sc.names.lookup n == some .cell) then (n,NameKind.cell) else (n,k)).lookup x =
   (names.lookup x).map fun k=>if (k == NameKind.free && sc.kind == .function && sc.names.lookup x == some .cell) then NameKind.cell else k
 | []=>rfl
 | (n,k) :: r=>by
   have ih:=oO (sc:=sc) (x:=x) r
   rw [List.map_cons]
   by_cases hc:(k == NameKind.free && sc.kind == .function && sc.names.lookup n == some .cell)=true
   . show List.lookup x ((if (k == NameKind.free && sc.kind == .function && sc.names.lookup n == some .cell)=true then (n,NameKind.cell) else (n,k)) :: _)=_
     rw [if_pos hc,List.lookup_cons,List.lookup_cons]
     cases hx:x == n with
     | true =>
       have e:x=n:=beq_iff_eq.mp hx
       subst e
       show some NameKind.cell=some (if (k == NameKind.free && sc.kind == .function && sc.names.lookup x == some .cell)=true then NameKind.cell else k)
       rw [if_pos hc]
     | false=>exact ih
   . show List.lookup x ((if (k == NameKind.free && sc.kind == .function && sc.names.lookup n == some .cell)=true then (n,NameKind.cell) else (n,k)) :: _)=_
     rw [if_neg hc,List.lookup_cons,List.lookup_cons]
     cases hx:x == n with
     | true =>
       have e:x=n:=beq_iff_eq.mp hx
       subst e
       show some k=some (if (k == NameKind.free && sc.kind == .function && sc.names.lookup x == some .cell)=true then NameKind.cell else k)
       rw [if_neg hc]
     | false=>exact ih
theorem Fd {M:Model} {A:Around} {E:Value->Shared->Prop} {s:Shared} {scope:Scope} {globals:Addr} {cl:List (Str × Addr)} {qual:Str} {env:Env} {Q:Env->Shared->Prop}
   (hQ:Q (newEnv scope s.heap.objs.size globals (cellsFrom (s.heap.objs.size+1) scope.names cl) qual none .none (some env) builtinsNs) { s with heap:=pushCells (s.heap.push { cls:=.type "dict",data:=.dict #[] }) scope.names }) :
   wpAny M A (newFunctionEnv scope globals cl [] qual none .none (some env)) Q E s:=by
 simp only [newFunctionEnv,Option.isSome_some,if_true]
 refine wpAny_bind (wpAny_alloc ?_)
 refine wpAny_bind (wpAny_layCells _ (fun name kind cells=>by cases hkc:kind == NameKind.cell <;> simp [hkc]) _ _ _ _ ?_)
 rw [show ({ s with heap:=s.heap.push { cls:=.type "dict",data:=.dict #[] } }:Shared).heap.objs.size=s.heap.objs.size+1 from Heap.size_push ..]
 simp only [List.forIn_nil]
 exact wpAny_bind (wpAny_pure (wpAny_pure hQ))
structure Af (iH scope:Scope) (N' own cp:List Str) (ixs:List Nat):Prop where
 kind:scope.kind=.function
 nm:∀ y∈scope.names,scope.names.lookup y.1=some y.2
 free:∀ y∈scope.names,y.2=.free->iH.names.lookup y.1=some .cell∨iH.names.lookup y.1=some .free
 cap:∀ x∈cp,scope.names.lookup x=some .free
 ix:ixs.map (fun i=>N'[i]?)=cp.map some
 nd:(own++cp).Nodup
def J6 (own:List Str) (ix:List Nat) (σ:St):St:=own.map (fun _=>none)++ix.map fun i=>(σ[i]?).getD none
end L2
namespace L2
open PySem PySem.Spec PyProof.Rows
section
variable {X:Cx} {pins:List (Addr × Obj)} {σ:St} {H:Hp} {s:Shared}
abbrev hpB (s:Shared) (scope:Scope):Heap:=pushCells (s.heap.push { cls:=.type "dict",data:=.dict #[] }) scope.names
abbrev TX (X:Cx) (s:Shared) (scope:Scope):List (Str × Addr):=cellsFrom (s.heap.objs.size+1) scope.names (eY X.env scope.names [])
abbrev xO (X:Cx) (pins:List (Addr × Obj)) (s:Shared) (H:Hp) (scope:Scope) (fp:List Addr):BI:=⟨TX X s scope,s.heap.objs.size,s,H,fp,pins⟩
theorem yN (s:Shared) (scope:Scope) (b:Addr) (o:Obj) (e:s.heap.get? b=some o):(hpB s scope).get? b=some o:=pushCells_keeps _ _ b o (Heap.get?_push_of_some _ e)
theorem Ig (s:Shared) (scope:Scope):CellsOk (hpB s scope) (s.heap.objs.size+1) (cellsFrom (s.heap.objs.size+1) scope.names []):=by
 have ok:=cellsFrom_ok scope.names (s.heap.push { cls:=.type "dict",data:=.dict #[] }) (s.heap.objs.size+1) [] ⟨fun _ _ hm=>(nomatch hm),List.Pairwise.nil⟩ (by rw [Heap.size_push]; exact Nat.le_refl _)
 rw [Heap.size_push] at ok
 exact ok
theorem kI {iH scope:Scope} {N' own cap:List Str} {ix:List Nat} (S:Af iH scope N' own cap ix) (hX:X.env.scope=iH) (I:Inv X pins σ H s) {x:Str} {c:Addr} (h:(TX X s scope).lookup x=some c) :
   ((x,c)∈cellsFrom (s.heap.objs.size+1) scope.names []/\s.heap.objs.size+1<=c/\scope.names.lookup x=some .cell)∨(X.env.cells.lookup x=some c/\scope.names.lookup x=some .free):=by
 have h':(cellsFrom (s.heap.objs.size+1) scope.names (eY X.env scope.names [])).lookup x=some c:=h
 rw [dw,lookup_append] at h'
 cases e:(cellsFrom (s.heap.objs.size+1) scope.names []).lookup x with
 | some c' =>
   rw [e] at h'
   cases h'
   have m:=PySem.mem_of_lookup e
   refine .inl ⟨m,((Ig s scope).empty _ _ m).2,?_⟩
   rcases gO _ _ _ m with z | z
   . exact nomatch z
   . exact S.nm _ z
 | none =>
   rw [e] at h'
   rcases jT _ _ h' with z | ⟨z,ec⟩
   . exact nomatch z
   . have hf:=S.free _ z rfl
     rw [<- hX] at hf
     obtain ⟨c',e'⟩:=I.ok.has x hf
     rw [e'] at ec
     exact .inr ⟨by rw [e',ec]; rfl,S.nm _ z⟩
theorem Cr {iH scope:Scope} {N' own cap:List Str} {ix:List Nat} (S:Af iH scope N' own cap ix) (hX:X.env.scope=iH) (I:Inv X pins σ H s) {x:Str} (hx:scope.names.lookup x=some .free) :
   ∃ c,X.env.cells.lookup x=some c/\(TX X s scope).lookup x=some c:=by
 have m:=PySem.mem_of_lookup hx
 have hf:=S.free _ m rfl
 rw [<- hX] at hf
 obtain ⟨c,e⟩:=I.ok.has x hf
 refine ⟨c,e,?_⟩
 have n1:(cellsFrom (s.heap.objs.size+1) scope.names []).lookup x=none:=mQ fun c' hc'=>by
   rcases gO _ _ _ hc' with z | z
   . exact nomatch z
   . have:=S.nm _ z
     rw [hx] at this
     cases this
 obtain ⟨c',e'⟩:=pA (env:=X.env) (x:=x) scope.names [] (.inl m)
 show (cellsFrom (s.heap.objs.size+1) scope.names (eY X.env scope.names [])).lookup x=some c
 rw [dw,lookup_append,n1]
 show (eY X.env scope.names []).lookup x=some c
 rcases jT _ _ e' with z | ⟨_,z⟩
 . exact nomatch z
 . rw [e',z,e]; rfl
theorem kindB {scope sc:Scope} {x:Str}:(kE scope sc).names.lookup x=(scope.names.lookup x).map fun k=>if (k == NameKind.free && sc.kind == .function && sc.names.lookup x == some .cell) then NameKind.cell else k:=oO scope.names
theorem aa5 {iH scope:Scope} {own cap:List Str} {ix:List Nat} (S:Af iH scope X.N own cap ix) (hX:X.env.scope=iH) (I:Inv X pins σ H s) {h':Heap} {m:Str->Option Value} (keep:∀ x c v,X.env.cells.lookup x=some c->s.heap.IsCell c v->h'.IsCell c v)
   (i:Nat) (x:Str) (v:V) (e1:(own++cap)[i]?=some x) (e2:(J6 own ix σ)[i]?=some (some v)):∃ u,RelV v u/\Look (Fb scope (TX X s scope) s.heap.objs.size X.env) h' m x u:=by
 have hi:¬ i<own.length:=fun hi=>by
   unfold J6 at e2
   rw [List.getElem?_append_left (by simpa using hi),List.getElem?_map] at e2
   cases q:own[i]? with
   | none=>rw [q] at e2; cases e2
   | some y=>rw [q] at e2; cases e2
 have e1':cap[i-own.length]?=some x:=by
   rw [List.getElem?_append_right (by omega)] at e1
   exact e1
 have e2':∃ k,ix[i-own.length]?=some k/\σ[k]?=some (some v):=by
   unfold J6 at e2
   rw [List.getElem?_append_right (by simpa using Nat.le_of_not_lt hi),List.getElem?_map,List.length_map] at e2
   cases q:ix[i-own.length]? with
   | none=>rw [q] at e2; cases e2
   | some k =>
     rw [q] at e2
     have e3:(σ[k]?).getD none=some v:=Option.some.inj e2
     cases q2:σ[k]? with
     | none=>rw [q2] at e3; cases e3
     | some z =>
       rw [q2] at e3
       exact ⟨k,rfl,by rw [q2,show z=some v from e3]⟩
 obtain ⟨k,hk,hv⟩:=e2'
 have hN:X.N[k]?=some x:=by
   have z:=congrArg (fun l=>l[i-own.length]?) S.ix
   simp only [List.getElem?_map] at z
   rw [hk,e1'] at z
   exact Option.some.inj z
 have hx:=S.cap x (List.mem_of_getElem? e1')
 have m':=PySem.mem_of_lookup hx
 have hf:=S.free _ m' rfl
 rw [<- hX] at hf
 obtain ⟨m0,_,hl⟩:=I.loc
 obtain ⟨u,r,l⟩:=hl k x v hN hv (hf.elim (fun z=>.inr (.inl z)) fun z=>.inr (.inr z))
 refine ⟨u,r,?_⟩
 have l':∃ c,X.env.cells.lookup x=some c/\s.heap.IsCell c (some u):=by
   rcases l with ⟨z,_⟩ | ⟨_,c,z,q⟩
   . rcases hf with y | y
     . rw [show X.env.kindOf x=some .cell from y] at z; cases z
     . rw [show X.env.kindOf x=some .free from y] at z; cases z
   . exact ⟨c,z,q⟩
 obtain ⟨c,ec,hc⟩:=l'
 obtain ⟨c',ec',eb⟩:=Cr S hX I hx
 rw [ec] at ec'
 cases ec'
 refine .inr ⟨?_,c,eb,keep x c _ ec hc⟩
 have kb:(Fb scope (TX X s scope) s.heap.objs.size X.env).kindOf x=some (if (NameKind.free == NameKind.free && X.env.scope.kind == .function && X.env.scope.names.lookup x == some .cell) then NameKind.cell else NameKind.free):=by
   show (kE scope X.env.scope).names.lookup x=_
   rw [kindB,hx]; rfl
 rw [kb]
 by_cases q:(NameKind.free == NameKind.free && X.env.scope.kind == .function && X.env.scope.names.lookup x == some .cell)=true
 . rw [if_pos q]; exact .inl rfl
 . rw [if_neg q]; exact .inr rfl
theorem TY {iH scope:Scope} {own cap:List Str} {ix:List Nat} {fp:List Addr} (S:Af iH scope X.N own cap ix) (hX:X.env.scope=iH) (I:Inv X pins σ H s) (hf:∀ b∈fp,oJ X pins H b) (ho:∀ b∈fp,∃ o,s.heap.get? b=some o) :
   Inv (blk X scope (own++cap) (xO X pins s H scope fp)) [] (J6 own ix σ) H { s with heap:=hpB s scope }:=by
 have kp:=yN s scope
 have own1:=Ig s scope
 have ltC:∀ x c,X.env.cells.lookup x=some c->c<s.heap.objs.size:=fun x c e=>by
   obtain ⟨v,o,e',_⟩:=I.cell x c e
   exact Heap.lt_size e'
 have Ss:∀ b∈fp,b<s.heap.objs.size:=fun b hb=>let ⟨_,e⟩:=ho b hb; Heap.lt_size e
 have aa6:∀ b,b≠X.env.locals->b ∉ X.fs->b ∉ frs X.stack:=fun b h1 h2 hb=>by
   rcases List.mem_cons.mp (I.El b hb) with e | e
   . exact h1 e
   . exact h2 e
 refine ⟨⟨I.ok.mod,S.kind,I.ok.glob,I.ok.blt,Nat.le_refl _,fun x y c h1 h2=>?_,fun x hx=>?_,fun x c hx h=>?_,I.ok.hd,I.ok.frames,.inl rfl,fun b hb=>⟨?_,fun x c h=>?_⟩,I.bs,Nat.le_trans I.ok.Te I.sz,fun b o e hb=>?_,fun b hb=>?_,I.stack,I.Hy⟩,
   rfl,I.bare,Un.kept kp,⟨fun _=>none,?_,fun i x v e1 e2 _=>aa5 S hX I (fun x c v _ hc=>hc.keeps kp) i x v e1 e2⟩,fun x c h=>?_,I.hok.fresh (Nat.le_refl _),fun x c h=>?_,fun p hp=>?_,I.hok.kept kp,?_⟩
 . rcases kI S hX I h1 with ⟨m1,l1,_⟩ | ⟨m1,_⟩ <;> rcases kI S hX I h2 with ⟨m2,l2,_⟩ | ⟨m2,_⟩
   . exact name_of_addr own1.apart m1 m2
   . exact absurd (Nat.lt_of_lt_of_le (ltC _ _ m2) (Nat.le_of_succ_le l1)) (Nat.lt_irrefl _)
   . exact absurd (Nat.lt_of_lt_of_le (ltC _ _ m1) (Nat.le_of_succ_le l2)) (Nat.lt_irrefl _)
   . exact I.ok.inj x y c m1 m2
 . have hx':(kE scope X.env.scope).names.lookup x=some .cell∨(kE scope X.env.scope).names.lookup x=some .free:=hx
   rw [kindB] at hx'
   cases q:scope.names.lookup x with
   | none=>rw [q] at hx'; rcases hx' with z | z <;> cases z
   | some k =>
     rw [q] at hx'
     cases k with
     | free=>obtain ⟨c,_,e⟩:=Cr S hX I q; exact ⟨c,e⟩
     | cell =>
       obtain ⟨c,e⟩:=uZ (sc:=scope) (n:=s.heap.objs.size+1) q
       refine ⟨c,?_⟩
       show (cellsFrom (s.heap.objs.size+1) scope.names (eY X.env scope.names [])).lookup x=some c
       rw [dw,lookup_append,e]
     | _=>rcases hx' with z | z <;> cases z
 . have hx':(scope.names.lookup x == some .cell)=true:=hx
   rcases kI S hX I h with ⟨_,l1,_⟩ | ⟨_,z⟩
   . show s.heap.objs.size<=c; omega
   . rw [z] at hx'; exact absurd hx' (by decide)
 . exact Nat.ne_of_lt (Ss b hb)
 . rcases kI S hX I h with ⟨_,l1,_⟩ | ⟨z,_⟩
   . intro z; rw [z] at l1; exact absurd (Nat.lt_of_lt_of_le (Ss b hb) (Nat.le_of_succ_le l1)) (Nat.lt_irrefl _)
   . exact (hf b hb).2.2.2.2.1 x c z
 . rcases (hf b hb).2.2.2.1 with z | z
   . exact I.ok.M8 b o e z
   . exact absurd (Nat.lt_of_lt_of_le (Nat.lt_of_lt_of_le (Heap.lt_size e) I.ok.Te) z) (Nat.lt_irrefl _)
 . exact aa6 b (hf b hb).2.1 (hf b hb).2.2.1
 . exact (Heap.Ns.new s.heap (.type "dict")).keeps (pushCells_keeps _ _)
 . rcases kI S hX I h with ⟨m1,_,_⟩ | ⟨z,_⟩
   . exact ⟨none,(own1.empty _ _ m1).1⟩
   . obtain ⟨v,q⟩:=I.cell x c z
     exact ⟨v,q.keeps kp⟩
 . rcases kI S hX I h with ⟨_,l1,_⟩ | ⟨z,_⟩
   . exact I.hok.fresh (by omega)
   . exact I.j8 x c z
 . have hp':p∈X.pn++pins:=by
     rcases List.mem_append.mp hp with z | z
     . exact z
     . exact nomatch z
   obtain ⟨e,n,ne,nf,d⟩:=I.pin p hp'
   exact ⟨kp _ _ e,n,Nat.ne_of_lt (Heap.lt_size e),aa6 _ ne nf,d⟩
 . unfold J6
   show (own.map (fun _=>(none:Option V))++ix.map fun i=>(σ[i]?).getD none).length=(own++cap).length
   have z:=congrArg List.length S.ix
   rw [List.length_map,List.length_map] at z
   rw [List.length_append,List.length_append,List.length_map,List.length_map,z]
theorem J7 {iH scope:Scope} {own cap:List Str} {ix:List Nat} {fp:List Addr} {pl:List (Addr × Obj)} {σ':St} {H':Hp} {s':Shared} (S:Af iH scope X.N own cap ix) (hX:X.env.scope=iH) (I:Inv X pins σ H s) (hf:∀ b∈fp,oJ X pins H b)
   (J:Inv (blk X scope (own++cap) (xO X pins s H scope fp)) pl σ' H' s'):Inv (blk X scope (own++cap) (xO X pins s H scope fp)) pl (J6 own ix σ) H' s':=by
 obtain ⟨m,hn,_⟩:=id J.loc
 refine ⟨J.ok,J.os,J.bare,J.base,⟨m,hn,fun i x v e1 e2 _=>aa5 S hX I (fun x c v ec hc=>?_) i x v e1 e2⟩,J.cell,J.free,J.j8,J.pin,J.hok,?_⟩
 . obtain ⟨o,e,d⟩:=hc
   obtain ⟨sl,e'⟩:=J.base.any e (I.j8 x c ec) fun hb=>(hf c hb).2.2.2.2.1 x c ec rfl
   exact ⟨_,e',d⟩
 . have z:=congrArg List.length S.ix
   rw [List.length_map,List.length_map] at z
   show (J6 own ix σ).length=(own++cap).length
   unfold J6
   rw [List.length_append,List.length_append,List.length_map,List.length_map,z]
theorem T3 {scope:Scope} {own cap:List Str} {fp:List Addr} {σ':St} {H':Hp} {s':Shared} {h':Heap} (I:Inv X pins σ H s) (hf:∀ b∈fp,oJ X pins H b)
   (J:Inv (blk X scope (own++cap) (xO X pins s H scope fp)) [] σ' H' s') (hs:Heap.SameBut s.heap.objs.size s'.heap h'):Inv X pins σ H' { s' with heap:=h' }:=by
 have I1:Inv X pins σ H' s':=I.call' (ch:=fp) J.os J.base J.hok J.bare fun b hb=>⟨(hf b hb).2.2.2.1,(hf b hb).2.1,(hf b hb).2.2.2.2.1,(hf b hb).2.2.2.2.2⟩
 have n1:s.heap.objs.size≠X.env.locals:=Nat.ne_of_gt I.lt
 refine I1.turned (it:=s.heap.objs.size) (t':=s'.toks) (fun b o hb e=>(hs.2 b hb).trans e) J.free n1 (.inr I.sz) (fun x c e z=>?_) fun p hp z=>?_
 . obtain ⟨v,o,e',_⟩:=I.cell x c e
   exact absurd z (Nat.ne_of_lt (Heap.lt_size e'))
 . exact absurd z (Nat.ne_of_lt (Heap.lt_size (I.pin p hp).1))
end
def Z5 (X:Cx) (ifs:List Expr) (t:TT):Prop :=
 ∀ (pins:List (Addr × Obj)) (s:Shared) (σ:St) (H:Hp) (Q:Bool->Hp->Prop),Inv X pins σ H s->t σ H Q ->
   wpAny (model X.prog X.w) X.A (forIn ifs true fun c r=>if r=true then do let ok <- isTrue c X.env (eval c X.env); pure (ForInStep.yield ok) else pure (ForInStep.yield r)) (TP X pins σ Q) X.xe s
def NZ:TT:=fun _ H Q=>Q true H
theorem cN {X:Cx}:Z5 X [] NZ:=fun _ _ _ H _ I h=>wpAny_tests_nil ⟨H,I,h⟩
theorem uG {X:Cx} {c:Expr} {t:TT} (h:PT X c t):Z5 X [c] t:=fun pins s σ H Q I hq=>wpAny_tests_one (h pins s σ H Q I hq)
def jE (J:It) (g:TG) (tt:TT) (act:St->Hp->(Hp->Prop)->Prop) (σ0:St) (End:Hp->Prop) (W:Nat->Nat->Hp->Prop):Prop :=
 ∀ i m H,W i m H->(J.stop i H/\End H)∨(J.go i H/\∀ x H',J.Tg i H x H'->g x σ0 H' fun σ2 H2=>tt σ2 H2 fun b H3 =>
   if b=true then act σ2 H3 fun H4=>∃ m',m'<m/\W (i+1) m' H4 else ∃ m',m'<m/\W (i+1) m' H3)
def jP (D:Addr) (te:TE):St->Hp->(Hp->Prop)->Prop:=fun σ H R=>te σ H fun y H4=>∃ zs,H4 D=some (.lst zs)/\zs.length<sizeLine/\R (upd H4 D (.lst (zs++[y])))
def N5 (own:List Str) (ix:List Nat) (wi:TI) (g:BI->TG) (tt:BI->TT) (te:BI->TE):TE:=fun σ H Q=>wi σ H fun J H1=>∀ D,H1 D=none ->
 ∃ W:Nat->Nat->Hp->Prop,(∃ m,W 0 m (upd H1 D (.lst [])))/\∀ b,jE J (g b) (tt b) (jP D (te b)) (J6 own ix σ) (fun H'=>Q (.ref D) H') W
section
variable {X:Cx} {tg iter elt:Expr} {ifs:List Expr} {scope iH:Scope} {pos:Pos} {own cap:List Str} {ix:List Nat} {wi:TI} {g:BI->TG} {tt:BI->TT} {te:BI->TE}
theorem J8 {pins:List (Addr × Obj)} {σ:St} {H:Hp} {s:Shared} {J:It} {fp:List Addr} {it D:Addr} {tn:Nat->Heap->Prop} {End:Hp->Prop} {W:Nat->Nat->Hp->Prop} {m0:Nat} {s4:Shared}
   (S:Af iH scope X.N own cap ix) (hX:X.env.scope=iH) (I:Inv X pins σ H s) (hf:∀ b∈fp,oJ X pins H b) (hc:X.calm=true) (T:Turn X.prog X.w X.K tg J fp it tn)
   (hg:PG (blk X scope (own++cap) (xO X pins s H scope fp)) tg (g (xO X pins s H scope fp))) (ht:Z5 (blk X scope (own++cap) (xO X pins s H scope fp)) ifs (tt (xO X pins s H scope fp)))
   (he:PE (blk X scope (own++cap) (xO X pins s H scope fp)) elt (te (xO X pins s H scope fp)))
   (hW:jE J (g (xO X pins s H scope fp)) (tt (xO X pins s H scope fp)) (jP D (te (xO X pins s H scope fp))) (J6 own ix σ) End W)
   (I4:Inv (blk X scope (own++cap) (xO X pins s H scope fp)) [] (J6 own ix σ) H s4) (st4:tn 0 s4.heap) (w0:W 0 m0 H) :
   codeAny (model X.prog X.w) X.A (.compLoop (.ListComp elt [⟨tg,iter,ifs,0⟩] scope pos) 0 (.ref it) (.ref D) (Fb scope (TX X s scope) s.heap.objs.size X.env))
     (fun r s'=>∃ H' σ',r=.ok .next/\Inv (blk X scope (own++cap) (xO X pins s H scope fp)) [] σ' H' s'/\End H') s4:=by
 have stat:∀ {H':Hp} {pl:List (Addr × Obj)},(∀ b∈fp,H' b=none)->(∀ p∈pl,p.1 ∉ fp)->∀ b∈fp,oJ (blk X scope (own++cap) (xO X pins s H scope fp)) [] H' b:=fun hn _ b hb=>by
   refine ⟨hn b hb,(I4.ok.exf b hb).1,I4.ok.M9 b hb,.inl hb,(I4.ok.exf b hb).2,fun p hp=>?_⟩
   have hp':p∈X.pn++pins:=by
     rcases List.mem_append.mp hp with z | z
     . exact z
     . exact nomatch z
   exact (hf b hb).2.2.2.2.2 p hp'
 refine codeAny_loop rfl (fun n s'=>∃ i H',Inv (blk X scope (own++cap) (xO X pins s H scope fp)) [] (J6 own ix σ) H' s'/\tn i s'.heap/\(∀ b∈fp,H' b=none)/\W i n H') ?_ m0 ⟨0,H,I4,st4,fun b hb=>(hf b hb).1,w0⟩
 rintro n s3 ⟨i,H3,I3,st3,fr3,w3⟩
 show wpAny _ X.A ((compTurn (.ListComp elt [⟨tg,iter,ifs,0⟩] scope pos) 0 (.ref it) (.ref D) (Fb scope (TX X s scope) s.heap.objs.size X.env)).onRaise (fun x=>do noteFrame x (Fb scope (TX X s scope) s.heap.objs.size X.env); theTreesLotGoes x)) _ _ s3
 refine wpAny_noted ?_
 rw [compTurn_list]
 have st0:=stat (pl:=[]) fr3 (fun _ z=>nomatch z)
 rcases hW i n H3 w3 with ⟨stop,qe⟩ | ⟨go,step⟩
 . refine wpAny_bind (wpAny_standAt (wpAny_bind (cY (T.done (blk X scope (own++cap) (xO X pins s H scope fp)) rfl rfl rfl hc i [] s3 _ H3 _ I3 st0 st3 stop) fun r s5 ⟨hr,I5⟩=>?_)))
   subst hr
   exact wpAny_pure ⟨H3,_,rfl,I5,qe⟩
 . refine wpAny_bind (wpAny_standAt (wpAny_bind (cY (T.item (blk X scope (own++cap) (xO X pins s H scope fp)) rfl rfl rfl hc i [] s3 _ H3 _ I3 st0 st3 go) fun r s5 ⟨u,hr,h5⟩=>?_)))
   subst hr
   refine wpAny_bind (cY h5 fun _ s6 ⟨x,H6,I6,r6,y6,st6,fr6⟩=>?_)
   have I6':=I6.pinned (stat (pl:=[]) fr6 (fun _ z=>nomatch z)) (T.obj _ _ st6)
   refine wpAny_bind (wpAny_mono (hg _ s6 _ H6 x u _ I6' r6 (step x H6 y6)) (fun _ s7 ⟨σ7,H7,I7,q7⟩=>?_) fun _ _ f=>f.elim)
   refine wpAny_bind (wpAny_mono (ht _ s7 σ7 H7 _ I7 q7) (fun ok s8 ⟨H8,I8,q8⟩=>?_) fun _ _ f=>f.elim)
   have again:∀ {σ9:St} {H9:Hp} {s9:Shared} {m':Nat},Inv (blk X scope (own++cap) (xO X pins s H scope fp)) ([]++uW fp s6.heap) σ9 H9 s9->m'<n->W (i+1) m' H9 ->
       ∃ m,m<n/\∃ i H',Inv (blk X scope (own++cap) (xO X pins s H scope fp)) [] (J6 own ix σ) H' s9/\tn i s9.heap/\(∀ b∈fp,H' b=none)/\W i m H':=fun {σ9 H9 s9 m'} I9 hm w9=>by
     refine ⟨m',hm,i+1,H9,J7 S hX I hf I9.qb,T.keep _ _ _ st6 fun b hb o e=>(I9.pin (b,o) (List.mem_append_right _ (List.mem_append_right _ (lM hb e)))).1,fun b hb=>?_,w9⟩
     obtain ⟨o,e,d⟩:=T.obj _ _ st6 b hb
     exact (I9.pin (b,o) (List.mem_append_right _ (List.mem_append_right _ (lM hb e)))).2.1
   cases ok with
   | false =>
     obtain ⟨m',hm,w9⟩:=q8
     exact wpAny_pure ⟨rfl,again I8 hm w9⟩
   | true =>
     refine wpAny_bind (wpAny_bind (wpAny_mono (he _ s8 σ7 H8 _ I8 q8) (fun y s9 ⟨v,H9,I9,r9,zs,hD,hz,m',hm,w9⟩=>?_) fun _ _ f=>f.elim))
     refine wpAny_bind (wpAny_mono (gB (X:=blk X scope (own++cap) (xO X pins s H scope fp)) _ s9 σ7 H9 (.ref D) [v] (.ref D) [y] (fun _ H'=>∃ m',m'<n/\W (i+1) m' H') I9 rfl (.cons r9 .nil) ⟨D,zs,v,rfl,rfl,hD,hz,m',hm,w9⟩) (fun _ Z6 ⟨_,uH,I10,_,m'',hm',w10⟩=>?_) fun _ _ f=>f.elim)
     exact wpAny_pure (wpAny_pure ⟨rfl,again I10 hm' w10⟩)
theorem vf {pins:List (Addr × Obj)} {σ:St} {H:Hp} {s:Shared} {Q:VK} {use:Option (Value->Sem Unit)} {Q':Value->Shared->Prop} (hc:X.calm=true) (hX:X.env.scope=iH) (S:Af iH scope X.N own cap ix) (hi:PI X tg iter wi)
   (hg:∀ b,PG (blk X scope (own++cap) b) tg (g b)) (ht:∀ b,Z5 (blk X scope (own++cap) b) ifs (tt b)) (he:∀ b,PE (blk X scope (own++cap) b) elt (te b))
   (hs:∀ x,foldedSetIterable iter X.env x=pure x) (I:Inv X pins σ H s) (h:N5 own ix wi g tt te σ H Q)
   (out:∀ (D C:Addr) (H':Hp) (s':Shared),Q (.ref D) H'->(∃ m,s'.heap.Ns C m)->oJ X pins H' C->(∀ h',Heap.SameBut C s'.heap h'->Inv X pins σ H' { s' with heap:=h' }) ->
     compPost (model X.prog X.w) X.A X.xe use Q' (.ref D) C (.ok .next) s') :
   wpAny (model X.prog X.w) X.A (comprehension (.ListComp elt [⟨tg,iter,ifs,0⟩] scope pos) scope X.env (firstIterPos [⟨tg,iter,ifs,0⟩] pos) (newList []) false (eval iter X.env) use) Q' X.xe s:=by
 have hclos:=xV (scope:=scope) (env:=X.env) fun y hy hk=>by
   have hf:=S.free y hy hk
   rw [<- hX] at hf
   exact I.ok.has y.1 hf
 refine wpAny_comprehension_free (use:=use) rfl hs hclos S.kind (fun y hy hk=>by rw [S.nm y hy,hk]) (cY (hi pins s σ H _ I h) fun v s1 h1=>cY h1 fun itv s2 h2=>?_)
 obtain ⟨it,fp,tn,J,H2,e,I2,T,st2,f2,hR⟩:=h2
 subst e
 refine wpAny_newObj_type ?_
 obtain ⟨W,⟨m0,w0⟩,hW⟩:=hR s2.heap.objs.size I2.fresh
 have I3:Inv X pins σ (upd H2 s2.heap.objs.size (.lst [])) { s2 with heap:=s2.heap.push { cls:=.type "list",data:=.seq ([]:List Value).toArray } }:=I2.aaY (t':=s2.toks) (its:=[]) .nil (Nat.zero_le _)
 have Ss:∀ b∈fp,b<s2.heap.objs.size:=fun b hb=>let ⟨_,e,_⟩:=T.obj _ _ st2 b hb; Heap.lt_size e
 have f3:∀ b∈fp,oJ X pins (upd H2 s2.heap.objs.size (.lst [])) b:=fun b hb=>⟨by rw [aB (Nat.ne_of_lt (Ss b hb))]; exact (f2 b hb).1,(f2 b hb).2⟩
 have st3:tn 0 (s2.heap.push { cls:=.type "list",data:=.seq ([]:List Value).toArray }):=T.keep _ _ _ st2 fun b hb o e=>Heap.get?_push_of_some _ e
 generalize hs3:({ s2 with heap:=s2.heap.push { cls:=.type "list",data:=.seq ([]:List Value).toArray } }:Shared)=s3 at I3
 have aa7:tn 0 s3.heap:=by rw [<- hs3]; exact st3
 have ob3:∀ b∈fp,∃ o,s3.heap.get? b=some o:=fun b hb=>let ⟨o,e,_⟩:=T.obj _ _ aa7 b hb; ⟨o,e⟩
 have I4:=TY S hX I3 f3 ob3
 have st4:tn 0 (hpB s3 scope):=T.keep _ _ _ aa7 fun b _ o e=>yN s3 scope b o e
 refine Fd ?_
 have loop:=J8 (iter:=iter) (pos:=pos) S hX I3 f3 hc T (hg _) (ht _) (he _) (hW _) I4 st4 w0
 have fin:codeAny (model X.prog X.w) X.A (.compLoop (.ListComp elt [⟨tg,iter,ifs,0⟩] scope pos) 0 (.ref it) (.ref s2.heap.objs.size) (Fb scope (TX X s3 scope) s3.heap.objs.size X.env))
     (compPost (model X.prog X.w) X.A X.xe use Q' (.ref s2.heap.objs.size) s3.heap.objs.size) { s3 with heap:=hpB s3 scope }:=codeAny_mono loop fun r s' ⟨H',σ',hr,J',q⟩=>by
   subst hr
   exact out _ _ H' s' q (let ⟨m,hn,_⟩:=J'.loc; ⟨m,hn⟩) (I3.zU (Nat.le_refl _) J'.free) fun h' hh=>T3 I3 f3 J' hh
 exact codeAny_compStart_list fin (T.self _ 0 _ _ _ st4 fin)
theorem cB (hc:X.calm=true) (hX:X.env.scope=iH) (S:Af iH scope X.N own cap ix) (hi:PI X tg iter wi) (hg:∀ b,PG (blk X scope (own++cap) b) tg (g b)) (ht:∀ b,Z5 (blk X scope (own++cap) b) ifs (tt b))
   (he:∀ b,PE (blk X scope (own++cap) b) elt (te b)) (hs:∀ x,foldedSetIterable iter X.env x=pure x:=by intro _; rfl) :
   PE X (.ListComp elt [⟨tg,iter,ifs,0⟩] scope pos) (N5 own ix wi g tt te):=by
 intro pins s σ H Q I h
 rw [eval_ListComp]
 refine vf (use:=none) hc hX S hi hg ht he hs I h fun D C H' s' q hn _ hI=>?_
 obtain ⟨m,hn⟩:=hn
 exact ⟨m,hn,fun h' hh=>⟨.ref D,H',hI h' hh,rfl,q⟩⟩
theorem vg {i:Nat} {x:Str} {pos' spos:Pos} (hN:X.N.Nodup) (hx1:X.N[i]?=some x) (hx:X.env.scope.names.lookup x=some .local) (hc:X.calm=true) (hX:X.env.scope=iH) (S:Af iH scope X.N own cap ix) (hi:PI X tg iter wi)
   (hg:∀ b,PG (blk X scope (own++cap) b) tg (g b)) (ht:∀ b,Z5 (blk X scope (own++cap) b) ifs (tt b)) (he:∀ b,PE (blk X scope (own++cap) b) elt (te b)) (hs:∀ x,foldedSetIterable iter X.env x=pure x:=by intro _; rfl)
   (hsw:swapsWith (.ListComp elt [⟨tg,iter,ifs,0⟩] scope pos) (some (.Name x pos')) spos.line X.env=pure true:=by rfl) :
   PS X (.Assign [.Name x pos'] (.ListComp elt [⟨tg,iter,ifs,0⟩] scope pos) spos) (JM (N5 own ix wi g tt te) (Ce i)):=by
 intro pins s σ H D I h
 rw [exec_Assign_Name_used _ _ _ _ hsw]
 refine wpAny_bind (wpAny_standAt (wpAny_bind ?_))
 show wpAny _ X.A (do let _ <- comprehension (.ListComp elt [⟨tg,iter,ifs,0⟩] scope pos) scope X.env _ (newList []) false (eval iter X.env) (some (assign (.Name x pos') X.env))) _ _ s
 refine wpAny_bind (wpAny_mono (vf (use:=some (assign (.Name x pos') X.env)) (Q':=fun _ s'=>SP X pins D .next s') hc hX S hi hg ht he hs I h fun D1 C H' s' q hn fC hI=>?_) (fun _ s' hq=>wpAny_pure (wpAny_pure hq)) fun _ _ e=>e)
 obtain ⟨m,hn⟩:=hn
 have I0:Inv X pins σ H' s':=by
   have z:=hI s'.heap (Heap.SameBut.refl ..)
   exact z
 show wpAny _ X.A (assign (.Name x pos') X.env (.ref D1)) _ _ _
 refine wpAny_assign_Name (yC I0 hN hx1 (.inl hx) (show RelV (.ref D1) (.ref D1) from rfl) (fun s2 I2 ⟨a,sb,ha⟩=>?_) (.inr hx))
 have na:C≠a:=by
   rcases ha with e | e
   . rw [e]; exact fC.2.1
   . intro z; exact fC.2.2.2.2.1 x a e z.symm
 refine ⟨m,hn.sameBut sb na,fun h' hh=>?_⟩
 refine ⟨_,H',?_,q⟩
 exact I2.turned (it:=C) (t':=s2.toks) (fun b o hb e=>(hh.2 b hb).trans e) fC.1 fC.2.1 fC.2.2.2.1 fC.2.2.2.2.1 fC.2.2.2.2.2
end
end L2
namespace L2
open PySem PySem.Spec PyProof.Rows
def Its (x:Str):It:=⟨fun i _=>i<x.cps.size,fun i H v H'=>H'=H/\∃ c,x.cps[i]?=some c/\v=.str ⟨#[c]⟩,fun i _=>x.cps.size<=i⟩
theorem J9 {P:Program} {w:World} {K:PySem.W.Frag} {tg:Expr} (it:Addr) (x:Str) (t:Tok):Turn P w K tg (Its x) [it] it (fun i h=>h.IsStrIter it "str_ascii_iterator" x t i) where
 mem:=by simp
 obj:=fun i h st b hb=>by
   have e:b=it:=by simpa using hb
   subst e
   obtain ⟨o,e,c,d⟩:=st
   exact ⟨o,e,fun v z=>by rw [d] at z; cases z⟩
 keep:=fun i h h' st k=>let ⟨o,e,r⟩:=st; ⟨o,k it (by simp) o e,r⟩
 item:=by
   intro X hP hw hK hc i pins s σ H E I hf st hg
   subst hP hw hK
   have hg':i<x.cps.size:=hg
   obtain ⟨f0,f1,f2,f3,f4,f5⟩:=hf it (by simp)
   refine wpAny_pyNext_ascii_item st (c:=x.cps[i]) (by simp [hg']) fun h' st' sb=>?_
   have I1:Inv X pins σ H { s with heap:=h',toks:=s.toks+1 }:=I.turned (fun b o hb e=>(sb.2 b hb).trans e) f0 f1 f3 f4 f5
   obtain ⟨o,e,c,d⟩:=id st'
   exact ⟨_,rfl,sW (s:={ s with heap:=h',toks:=s.toks+1 }) e c d (by decide) ⟨.str ⟨#[x.cps[i]]⟩,H,I1,⟨_,rfl⟩,⟨rfl,_,by simp [hg'],rfl⟩,st',fun b hb=>(hf b hb).1⟩⟩
 done:=by
   intro X hP hw hK hc i pins s σ H E I hf st hg
   subst hP hw hK
   have hg':x.cps.size<=i:=hg
   obtain ⟨f0,f1,f2,f3,f4,f5⟩:=hf it (by simp)
   exact wpAny_pyNext_ascii_end (I.ok.hd hc) st (by simp [hg']) fun h' eb=>⟨rfl,I.turned (t':=s.toks) (fun b o hb e=>eb b o hb e) f0 f1 f3 f4 f5⟩
 self:=fun _ _ _ _ _ st h=>wpAny_pyIter_striter_ascii st h
theorem Ka {P:Program} {w:World} {K:PySem.W.Frag} {tg:Expr} (it:Addr) (x:Str) (t:Tok):Turn P w K tg (Its x) [it] it (fun i h=>h.IsStrIter it "str_iterator" x t i) where
 mem:=by simp
 obj:=fun i h st b hb=>by
   have e:b=it:=by simpa using hb
   subst e
   obtain ⟨o,e,c,d⟩:=st
   exact ⟨o,e,fun v z=>by rw [d] at z; cases z⟩
 keep:=fun i h h' st k=>let ⟨o,e,r⟩:=st; ⟨o,k it (by simp) o e,r⟩
 item:=by
   intro X hP hw hK hc i pins s σ H E I hf st hg
   subst hP hw hK
   have hg':i<x.cps.size:=hg
   obtain ⟨f0,f1,f2,f3,f4,f5⟩:=hf it (by simp)
   refine wpAny_pyNext_wide_item st (c:=x.cps[i]) (by simp [hg']) fun h' st' sb=>?_
   have I1:Inv X pins σ H { s with heap:=h',toks:=s.toks+1 }:=I.turned (fun b o hb e=>(sb.2 b hb).trans e) f0 f1 f3 f4 f5
   obtain ⟨o,e,c,d⟩:=id st'
   exact ⟨_,rfl,sW (s:={ s with heap:=h',toks:=s.toks+1 }) e c d (by decide) ⟨.str ⟨#[x.cps[i]]⟩,H,I1,⟨_,rfl⟩,⟨rfl,_,by simp [hg'],rfl⟩,st',fun b hb=>(hf b hb).1⟩⟩
 done:=by
   intro X hP hw hK hc i pins s σ H E I hf st hg
   subst hP hw hK
   have hg':x.cps.size<=i:=hg
   obtain ⟨f0,f1,f2,f3,f4,f5⟩:=hf it (by simp)
   exact wpAny_pyNext_wide_end (I.ok.hd hc) st (by simp [hg']) fun h' eb=>⟨rfl,I.turned (t':=s.toks) (fun b o hb e=>eb b o hb e) f0 f1 f3 f4 f5⟩
 self:=fun _ _ _ _ _ st h=>wpAny_pyIter_striter_wide st h
def afi (tl:TE):TI:=fun σ H R=>tl σ H fun x H1=>∃ z,x=.str z/\R (Its z) H1
theorem XR {X:Cx} {tg l:Expr} {tl:TE} (hl:PE X l tl):PI X tg l (afi tl):=by
 intro pins s σ H R I h
 refine cY (hl pins s σ H _ I h) fun v s1 ⟨x,H1,I1,r1,q1⟩=>?_
 obtain ⟨z,e,q⟩:=q1
 subst e
 obtain ⟨t,rfl⟩:=r1
 have fp:∀ b∈[s1.heap.objs.size],oJ X pins H1 b:=fun b hb=>by
   have e:b=s1.heap.objs.size:=by simpa using hb
   subst e
   exact I1.zU (Nat.le_refl _) (I1.hok.fresh (Nat.le_refl _))
 cases ha:z.cps.all (·<128)
 . exact wpAny_pyIter_wide ha ⟨s1.heap.objs.size,[s1.heap.objs.size],_,_,H1,rfl,I1.kept (t':=s1.toks) fun b o e=>Heap.get?_push_of_some _ e,Ka _ z t,⟨_,Heap.get?_push_size _ rfl,rfl,rfl⟩,fp,q⟩
 . exact wpAny_pyIter_ascii ha ⟨s1.heap.objs.size,[s1.heap.objs.size],_,_,H1,rfl,I1.kept (t':=s1.toks) fun b o e=>Heap.get?_push_of_some _ e,J9 _ z t,⟨_,Heap.get?_push_size _ rfl,rfl,rfl⟩,fp,q⟩
section
variable {X:Cx}
theorem Kc:gW X (compareOp .LtE) (fun x y H Q=>∃ i j,x=.str i/\y=.str j/\Q (.bl (!decide (j.cps.toList<i.cps.toList))) H):=by
 intro pins s σ H x y v u Q I rx ry h
 obtain ⟨i,j,rfl,rfl,q⟩:=h
 obtain ⟨t,rfl⟩:=rx
 obtain ⟨t',rfl⟩:=ry
 exact PySem.P.le_str ⟨.bl _,H,I,rfl,q⟩
theorem Cu {v:Value} {o:Option Int} (p:IsPart v o):∃ l:Option (Int × Tok),v=partValue l/\l.map (·.1)=o:=by
 cases p with
 | none=>exact ⟨none,rfl,rfl⟩
 | int i t=>exact ⟨some (i,t),rfl,rfl⟩
theorem XS:Z4 X (fun x lo hi H Q=>∃ z,x=.str z/\z.length<=sizeLine/\Q (.str (Txt.slice z lo hi)) H):=by
 intro pins s σ H x v vl vu lo hi sl Q I rx hs pl pu h
 obtain ⟨z,rfl,hz,q⟩:=h
 obtain ⟨t,rfl⟩:=rx
 obtain ⟨l,e1,f1⟩:=Cu pl
 obtain ⟨u,e2,f2⟩:=Cu pu
 subst e1 e2 f1 f2
 refine ⟨"str",_,F.slot_str_getitem.lookup,typeIs_str _ _ _,wpAny_getItem_str_slice (l:=l) (u:=u) (st:=none) hs rfl ?_⟩
 exact post_val_or_str ⟨Nat.le_trans (Txt.slice_le z _ _) hz,fun t' k=>⟨.str (Txt.slice z _ _),H,I.tok k,⟨t',rfl⟩,q⟩⟩
theorem Cv:∀ {bs:List Bool} {us:List Value},Vals (bs.map V.bl) us->LSm.BoolsAre us bs:=by
 intro bs
 induction bs with
 | nil=>intro us r; rw [List.map_nil] at r; cases r; exact .nil
 | cons b bs ih =>
   intro us r
   rw [List.map_cons] at r
   cases r with
   | cons r1 r2 =>
     have e:_=Value.bool b:=r1
     subst e
     exact .cons b (ih r2)
theorem qp (hc:X.calm=true):dM X (.builtin "all") (fun xs H Q=>∃ (p:Addr) (bs:List Bool),xs=[.ref p]/\cT X.K H p (bs.map V.bl)/\Q (.bl (bs.all id)) H):=by
 intro pins s σ H xs us Q I r h
 obtain ⟨p,bs,rfl,hq,q⟩:=h
 obtain ⟨u,rfl,ru⟩:=vals1 r
 cases ru
 obtain ⟨its,rv,pl,_⟩:=I.list hq
 have hb:=Cv rv
 have hl:=pl.isList
 have hlt:p<s.heap.objs.size:=by obtain ⟨_,e,_⟩:=hl; exact Heap.lt_size e
 refine call_all_walk (wpAny_pyIter_list hl ?_)
 refine ⟨s.heap.objs.size,[s.heap.objs.size,p],[s.heap.objs.size],its.toArray.size,_,_,fun i=>(bs[i]?).getD true,rfl,Walks.list (A:=X.A.in1) (I.ok.hd hc) _ p (Nat.ne_of_lt hlt) its.toArray,
   ⟨⟨_,Heap.get?_push_size _ rfl,rfl,rfl⟩,hl.push _⟩,fun i v s' Q' E' hP hQ=>?_,fun h' tk hk=>?_⟩
 . obtain ⟨b,e,rfl⟩:=hb.get i v (by simpa using hP)
   simp only [e,Option.getD_some] at hQ
   exact wpAny_truthy_bool hQ
 . have e:((List.range its.toArray.size).all fun i=>(bs[i]?).getD true)=bs.all id:=by
     rw [List.size_toArray,hb.length]; exact LSm.range_all bs
   rw [e]
   exact ⟨.bl _,H,I.kept (LSm.kept_iter hk),rfl,q⟩
theorem gP:dM X (.builtin "isinstance") (fun xs H Q=>∃ x n t b,xs=[x,.ty n]/\iR X.K H x t/\PySem.W.kitOne X.K t (.type n)=some b/\Q (.bl b) H):=by
 intro pins s σ H xs us Q I r h
 obtain ⟨x,n,t,b,rfl,ty,e,q⟩:=h
 obtain ⟨u,w',rfl,rx,ry⟩:=vals2 r
 have ry':w'=Value.type n:=ry
 subst ry'
 exact JW I rx ty e fun tk=>⟨.bl b,H,I.tok tk,rfl,q⟩
mutual
inductive Dp (K:PySem.W.Frag) (H:Hp):V->PyData->Prop
 | non:Dp K H .non .none
 | bl (b:Bool):Dp K H (.bl b) (.bool b)
 | int (i:Int):Dp K H (.int i) (.int i)
 | str (x:Str):Dp K H (.str x) (.str x)
 | lst {a:Addr} {xs:List V} {ds:List PyData}:cT K H a xs->Mz K H xs ds->Dp K H (.ref a) (.list ds)
 | tup {a:Addr} {xs:List V} {ds:List PyData}:bW K H a xs->Mz K H xs ds->Dp K H (.ref a) (.tuple ds)
inductive Mz (K:PySem.W.Frag) (H:Hp):List V->List PyData->Prop
 | nil:Mz K H [] []
 | cons {x:V} {xs:List V} {d:PyData} {ds:List PyData}:Dp K H x d->Mz K H xs ds->Mz K H (x :: xs) (d :: ds)
end
mutual
theorem Dp.reads {pins:List (Addr × Obj)} {σ:St} {H:Hp} {s:Shared} (I:Inv X pins σ H s):∀ {x:V} {d:PyData} {u:Value},Dp X.K H x d->RelV x u->∃ as,Reads s.heap u d as
 | _,_,_,.non,r=>by cases (show _=Value.none from r); exact ⟨_,.none⟩
 | _,_,_,.bl b,r=>by cases (show _=Value.bool b from r); exact ⟨_,.bool b⟩
 | _,_,_,.int i,r=>by obtain ⟨t,rfl⟩:=(show ∃ t,_=Value.int i t from r); exact ⟨_,.int i t⟩
 | _,_,_,.str x,r=>by obtain ⟨t,rfl⟩:=(show ∃ t,_=Value.str x t from r); exact ⟨_,.str x t⟩
 | _,_,_,.lst (a:=a) hq h,r=>by
   cases (show _=Value.ref a from r)
   obtain ⟨its,rv,pl,_⟩:=I.list hq
   obtain ⟨as,q⟩:=Mz.reads I h rv
   obtain ⟨o,ho,hc,n,hd⟩:=pl.isList
   exact ⟨_,.list ho hc hd (by simpa using q)⟩
 | _,_,_,.tup (a:=a) hq h,r=>by
   cases (show _=Value.ref a from r)
   obtain ⟨its,rv,pl,_⟩:=I.tuple hq
   obtain ⟨as,q⟩:=Mz.reads I h rv
   obtain ⟨o,ho,hc,n,hd⟩:=pl
   exact ⟨_,.tuple ho hc hd (by simpa using q)⟩
theorem Mz.reads {pins:List (Addr × Obj)} {σ:St} {H:Hp} {s:Shared} (I:Inv X pins σ H s):∀ {xs:List V} {ds:List PyData} {us:List Value},Mz X.K H xs ds->Vals xs us->∃ as,ReadsAll s.heap us ds as
 | _,_,_,.nil,r=>by cases r; exact ⟨_,.nil⟩
 | _,_,_,.cons h1 h2,r=>by
   cases r with
   | cons r1 r2 =>
     obtain ⟨as,q1⟩:=Dp.reads I h1 r1
     obtain ⟨bs,q2⟩:=Mz.reads I h2 r2
     exact ⟨_,.cons q1 q2⟩
end
def afj (K:PySem.W.Frag):R2:=fun x y H Q=>∃ d e,Dp K H x d/\Dp K H y e/\SeqAt.shaped d=true/\SeqAt.shaped e=true/\Q (.bl (PyData.eqv d e)) H
def aa8 (K:PySem.W.Frag):R2:=fun x y H Q=>∃ d e,Dp K H x d/\Dp K H y e/\SeqAt.shaped d=true/\SeqAt.shaped e=true/\Q (.bl (!PyData.eqv d e)) H
theorem Fe (hu:X.A.units+64<cLine):gW X (compareOp .Eq) (afj X.K):=by
 intro pins s σ H x y v u Q I rx ry h
 obtain ⟨d,e,hd,he,sd,se,q⟩:=h
 obtain ⟨as,ra⟩:=hd.reads I rx
 obtain ⟨bs,rb⟩:=he.reads I ry
 exact eq_dataH ra rb sd se hu ⟨.bl _,H,I,rfl,q⟩
theorem N6 (hu:X.A.units+64<cLine):gW X (compareOp .NotEq) (aa8 X.K):=by
 intro pins s σ H x y v u Q I rx ry h
 obtain ⟨d,e,hd,he,sd,se,q⟩:=h
 obtain ⟨as,ra⟩:=hd.reads I rx
 obtain ⟨bs,rb⟩:=he.reads I ry
 exact ne_dataH ra rb sd se hu ⟨.bl _,H,I,rfl,q⟩
end
end L2
namespace L2
open PySem PySem.Spec PyProof.Rows
section
variable {X:Cx} {a b c:Expr} {ta tb tc:TE} {pos:Pos}
def tV (i:Nat):TE:=fun σ H Q=>match σ[i]? with
 | some (some v)=>Q v H
 | _=>False
theorem pV (i:Nat) {x:Str} {pos:Pos} (hN:X.N[i]?=some x:=by rfl) (hv:Vis X.env.scope x:=by first | exact Or.inl rfl | exact Or.inr (Or.inl rfl) | exact Or.inr (Or.inr rfl)) (hd:(x == ("__debug__" : Str))=false:=by decide)
   (hcd:(x == ("__classdict__" : Str))=false:=by decide):PE X (.Name x pos) (tV i):=by
 intro pins s σ H Q I h
 refine Xb hN hv hd hcd pins s σ H Q I ?_
 unfold tV at h
 cases e:σ[i]? with
 | none=>rw [e] at h; exact h.elim
 | some o =>
   rw [e] at h
   cases o with
   | none=>exact h.elim
   | some v=>exact ⟨v,e,h⟩
def fI (g:Int->Int->V):R2:=fun x y H Q=>match x,y with
 | .int i,.int j=>Q (g i j) H
 | _,_=>False
def MF (C:Int->Int->Prop) (g:Int->Int->V):R2:=fun x y H Q=>match x,y with
 | .int i,.int j=>C i j/\Q (g i j) H
 | _,_=>False
theorem gW.fI {f:Value->Value->Sem Value} {g:Int->Int->V} (h:gW X f (R8 g)):gW X f (fI g):=by
 intro pins s σ H x y v u Q I rx ry q
 refine h pins s σ H x y v u Q I rx ry ?_
 cases x <;> cases y <;> first | exact ⟨_,_,rfl,rfl,q⟩ | exact (show False from q).elim
theorem gW.MF {f:Value->Value->Sem Value} {C:Int->Int->Prop} {g:Int->Int->V} (h:gW X f (rI C g)):gW X f (MF C g):=by
 intro pins s σ H x y v u Q I rx ry q
 refine h pins s σ H x y v u Q I rx ry ?_
 cases x <;> cases y <;> first | exact ⟨_,_,rfl,rfl,q.1,q.2⟩ | exact (show False from q).elim
theorem iV:gW X (binaryOp .Add) (fI fun i j=>.int (i+j)):=Xk.fI
theorem N7:gW X (binaryOp .Sub) (fI fun i j=>.int (i-j)):=Xl.fI
theorem X3:gW X (binaryOp .Mult) (MF Ti fun i j=>.int (i * j)):=Xm.MF
theorem oMod:gW X (binaryOp .Mod) (MF (fun _ j=>0<j) fun i j=>.int (i % j)):=Xn.MF
def Wk (_ j:Int):Prop:=0<j/\j<4611686018427387904
theorem N8:gW X (binaryOp .FloorDiv) (rI Wk fun i j=>.int (i / j)):=opI fun i j _ _ _ _ _ hc q=>by
 have h1:(0:Int)<j:=hc.1
 have h2:j<4611686018427387904:=hc.2
 refine floordiv_int (by omega) (by rw [Int.fdiv_eq_ediv_of_nonneg i (by omega)]; exact q) (.inl (PyProof.noPylong_of_log2 ?_))
 have h3:j.natAbs≠0:=by omega
 have h4:j.natAbs<2 ^ 62:=by omega
 have:=(Nat.log2_lt h3).mpr h4
 omega
theorem oDiv:gW X (binaryOp .FloorDiv) (MF Wk fun i j=>.int (i / j)):=N8.MF
theorem afk:gW X (binaryOp .Pow) (MF aaI fun i j=>.int (i ^ j.toNat)):=Xo.MF
theorem oLt:gW X (compareOp .Lt) (fI fun i j=>.bl (decide (i<j))):=aaK.fI
theorem oLe:gW X (compareOp .LtE) (fI fun i j=>.bl (decide (i<=j))):=aaL.fI
theorem oGt:gW X (compareOp .Gt) (fI fun i j=>.bl (decide (j<i))):=aaM.fI
theorem oGe:gW X (compareOp .GtE) (fI fun i j=>.bl (decide (j<=i))):=aaN.fI
theorem X4:gW X (compareOp .Eq) (R8 fun i j=>.bl (decide (i=j))):=Nk fun _ _ _ _ _ _ _ q=>eq_int (by rw [Bool.beq_eq_decide_eq]; exact q)
theorem oEq:gW X (compareOp .Eq) (fI fun i j=>.bl (decide (i=j))):=X4.fI
theorem aa9:UnR X (unaryOp .USub) (fun x H Q=>match x with | .int i=>Q (.int (-i)) H | _=>False):=by
 intro pins s σ H x v Q I rx h
 cases x with
 | int i=>obtain ⟨t,rfl⟩:=rx; exact neg_int ⟨.int (-i),H,I.tok _,⟨_,rfl⟩,h⟩
 | _=>exact (show False from h).elim
def fS (g:Str->Str->V):R2:=fun x y H Q=>match x,y with
 | .str i,.str j=>Q (g i j) H
 | _,_=>False
theorem abb:gW X (compareOp .LtE) (fS fun i j=>.bl (!decide (j.cps.toList<i.cps.toList))):=by
 intro pins s σ H x y v u Q I rx ry q
 refine Kc pins s σ H x y v u Q I rx ry ?_
 cases x <;> cases y <;> first | exact ⟨_,_,rfl,rfl,q⟩ | exact (show False from q).elim
def afm:R2:=fun x y H Q=>match x,y with
 | .str i,.str j=>i.length+j.length<=sizeLine/\Q (.str (i++j)) H
 | _,_=>False
theorem X5:gW X (binaryOp .Add) afm:=by
 intro pins s σ H x y v u Q I rx ry q
 refine Eo pins s σ H x y v u Q I rx ry ?_
 cases x <;> cases y <;> first | exact ⟨_,_,rfl,rfl,q.1,q.2⟩ | exact (show False from q).elim
def bF (Q:Bool->Hp->Prop):VK:=fun x H=>match x with
 | .bl k=>Q k H
 | _=>False
def tF (t:TE):TT:=fun σ H Q=>t σ H (bF Q)
theorem Wm {Q:Bool->Hp->Prop} {x:V} {H:Hp} (h:bF Q x H):∃ k,x=.bl k/\Q k H:=by
 cases x with
 | bl k=>exact ⟨k,rfl,h⟩
 | _=>exact (show False from h).elim
theorem qt {op:CmpOp} {r:R2} (ho:gW X (compareOp op) r) (ha:PE X a ta) (hb:PE X b tb) (hm:behindInMarks op b=false):PT X (.Compare a [op] [b] pos) (tF (Z2 r ta tb)):=by
 intro pins s σ H Q I h
 refine wpAny_isTrue_Compare1 (cY (ha pins s σ H _ I h) fun v s1 ⟨x,H1,I1,r1,q1⟩=>cY (hb pins s1 σ H1 _ I1 q1) fun u s2 ⟨y,H2,I2,r2,q2⟩ =>
   cY (ho pins s2 σ H2 x y v u _ I2 r1 r2 q2) fun c s3 ⟨z,H3,I3,r3,q3⟩=>?_) hm
 obtain ⟨k,e,q⟩:=Wm q3
 subst e
 cases r3
 exact wpAny_truthy_bool ⟨H3,I3,q⟩
theorem xW {e:Expr} {t:TE} (h:PE X e t) (he:∀ whole,isTrue e X.env whole=(do let v <- whole; standAt e.pos; holding [v] (truthy v)):=by intro _; rfl):PT X e (tF t):=by
 intro pins s σ H Q I hw
 refine isTrue_plain (cY (h pins s σ H _ I hw) fun v s1 ⟨x,H1,I1,r1,q1⟩=>?_) (he _)
 obtain ⟨d,rfl,q⟩:=Wm q1
 cases r1
 exact wpAny_truthy_bool ⟨H1,I1,q⟩
def abd (r r':R2) (ta tb tc:TE):TE:=fun σ H Q=>ta σ H fun x H1=>tb σ H1 fun y H2=>r x y H2 (bF fun k H3=>if k=true then tc σ H3 fun w' H4=>r' y w' H4 Q else Q (.bl false) H3)
theorem afn {op op':CmpOp} {r r':R2} (ho:gW X (compareOp op) r) (ho':gW X (compareOp op') r') (ha:PE X a ta) (hb:PE X b tb) (hc:PE X c tc)
   (hm:lastMarks [op,op'] [b,c]=false:=by with_unfolding_all rfl):PE X (.Compare a [op,op'] [b,c] pos) (abd r r' ta tb tc):=by
 intro pins s σ H Q I h
 refine Compare_chain (cY (ha pins s σ H _ I h) fun v s1 ⟨x,H1,I1,r1,q1⟩=>chain_link (cY (hb pins s1 σ H1 _ I1 q1) fun u s2 ⟨y,H2,I2,r2,q2⟩ =>
   cY (ho pins s2 σ H2 x y v u _ I2 r1 r2 q2) fun d s3 ⟨z,H3,I3,r3,q3⟩=>?_)) hm
 obtain ⟨k,e,q3⟩:=Wm q3
 subst e
 cases r3
 refine wpAny_truthy_bool ?_
 cases k with
 | false=>exact ite_ff ⟨.bl false,H3,I3,rfl,q3⟩
 | true=>exact ite_tt (chain_last (cY (hc pins s3 σ H3 _ I3 q3) fun w' s4 ⟨z',H4,I4,r4,q4⟩=>ho' pins s4 σ H4 y z' u w' Q I4 r2 r4 q4))
theorem X6 {op op':CmpOp} {r r':R2} (ho:gW X (compareOp op) r) (ho':gW X (compareOp op') r') (ha:PE X a ta) (hb:PE X b tb) (hc:PE X c tc)
   (hm:lastMarks [op,op'] [b,c]=false:=by with_unfolding_all rfl):PT X (.Compare a [op,op'] [b,c] pos) (tF (abd r r' ta tb tc)):=by
 intro pins s σ H Q I h
 refine isTrue_chain (cY (ha pins s σ H _ I h) fun v s1 ⟨x,H1,I1,r1,q1⟩=>test_link (cY (hb pins s1 σ H1 _ I1 q1) fun u s2 ⟨y,H2,I2,r2,q2⟩ =>
   cY (ho pins s2 σ H2 x y v u _ I2 r1 r2 q2) fun d s3 ⟨z,H3,I3,r3,q3⟩=>?_)) hm
 obtain ⟨k,e,q3⟩:=Wm q3
 subst e
 cases r3
 refine wpAny_truthy_bool ?_
 cases k with
 | false=>exact ite_ff ⟨H3,I3,q3⟩
 | true =>
   refine ite_tt (test_last (cY (hc pins s3 σ H3 _ I3 q3) fun w' s4 ⟨z',H4,I4,r4,q4⟩=>cY (ho' pins s4 σ H4 y z' u w' _ I4 r2 r4 q4) fun d' s5 ⟨z2,H5,I5,r5,q5⟩=>?_))
   obtain ⟨k2,e2,q5⟩:=Wm q5
   subst e2
   cases r5
   exact wpAny_truthy_bool ⟨H5,I5,q5⟩
variable {rest:List Expr}
def abe (ta tb:TE):TE:=fun σ H Q=>ta σ H (bF fun c H1=>if c=true then tb σ H1 Q else Q (.bl false) H1)
def afo (ta tb:TE):TE:=fun σ H Q=>ta σ H (bF fun c H1=>if c=true then Q (.bl true) H1 else tb σ H1 Q)
def abf (ta:TE):TE:=fun σ H Q=>ta σ H (bF fun c H1=>Q (.bl (!c)) H1)
theorem qu (ha:PE X a ta) (hb:PE X (.BoolOp .And (b :: rest) pos) tb):PE X (.BoolOp .And (a :: b :: rest) pos) (abe ta tb):=by
 intro pins s σ H Q I h
 refine BoolOp_and (cY (ha pins s σ H _ I h) fun v s1 ⟨x,H1,I1,r1,q1⟩=>?_)
 obtain ⟨c,rfl,q1⟩:=Wm q1
 cases r1
 refine wpAny_truthy_bool ?_
 cases c with
 | true=>exact hb pins s1 σ H1 Q I1 q1
 | false=>exact ⟨.bl false,H1,I1,rfl,q1⟩
theorem afp (ha:PE X a ta) (hb:PE X (.BoolOp .Or (b :: rest) pos) tb):PE X (.BoolOp .Or (a :: b :: rest) pos) (afo ta tb):=by
 intro pins s σ H Q I h
 refine BoolOp_or (cY (ha pins s σ H _ I h) fun v s1 ⟨x,H1,I1,r1,q1⟩=>?_)
 obtain ⟨c,rfl,q1⟩:=Wm q1
 cases r1
 refine wpAny_truthy_bool ?_
 cases c with
 | false=>exact hb pins s1 σ H1 Q I1 q1
 | true=>exact ⟨.bl true,H1,I1,rfl,q1⟩
theorem abg (ha:PE X a ta):PE X (.UnaryOp .Not a pos) (abf ta):=by
 intro pins s σ H Q I h
 refine UnaryOp_ (cY (ha pins s σ H _ I h) fun v s1 ⟨x,H1,I1,r1,q1⟩=>?_)
 obtain ⟨c,rfl,q1⟩:=Wm q1
 cases r1
 exact not_of (wpAny_truthy_bool ⟨.bl (!c),H1,I1,rfl,q1⟩)
end
end L2
namespace L2
open PySem PySem.Spec PyProof.Rows
def Nx (n i:Nat) (Pv:Nat->Hp->Prop) (H:Hp):Prop:=∃ m',m'<n-i/\(m'=n-(i+1)/\i+1<=n/\Pv (i+1) H)
theorem nx {n i:Nat} {Pv:Nat->Hp->Prop} {H:Hp} (hi:i<n) (h:Pv (i+1) H):Nx n i Pv H:=⟨n-(i+1),by omega,rfl,hi,h⟩
section
variable {g:BI->TG} {tt:BI->TT} {te:BI->TE} {σ0:St} {D:Addr} {End:Hp->Prop} {H1:Hp}
theorem nG {J:It} (n:Nat) (Pv:Nat->Hp->Prop) (h0:Pv 0 (upd H1 D (.lst []))) (stop:∀ H,Pv n H->J.stop n H/\End H)
   (turn:∀ i H,i<n->Pv i H->J.go i H/\∀ x H',J.Tg i H x H'->∀ b,g b x σ0 H' fun σ2 H2=>tt b σ2 H2 fun c H3=>if c=true then jP D (te b) σ2 H3 (Nx n i Pv) else Nx n i Pv H3) :
   ∃ W:Nat->Nat->Hp->Prop,(∃ m,W 0 m (upd H1 D (.lst [])))/\∀ b,jE J (g b) (tt b) (jP D (te b)) σ0 End W:=by
 refine ⟨fun i m H=>m=n-i/\i<=n/\Pv i H,⟨n,rfl,Nat.zero_le _,h0⟩,fun b i m H ⟨hm,hi,p⟩=>?_⟩
 subst hm
 by_cases hlt:i<n
 . exact .inr ⟨(turn i H hlt p).1,fun x H' y=>(turn i H hlt p).2 x H' y b⟩
 . have e:i=n:=by omega
   subst e
   exact .inl (stop H p)
theorem Oa {z:Str} (Pv:Nat->Hp->Prop) (h0:Pv 0 (upd H1 D (.lst []))) (stop:∀ H,Pv z.cps.size H->End H)
   (turn:∀ i c H,z.cps[i]?=some c->i<z.cps.size->Pv i H->∀ b,g b (.str ⟨#[c]⟩) σ0 H fun σ2 H2=>tt b σ2 H2 fun c H3=>if c=true then jP D (te b) σ2 H3 (Nx z.cps.size i Pv) else Nx z.cps.size i Pv H3) :
   ∃ W:Nat->Nat->Hp->Prop,(∃ m,W 0 m (upd H1 D (.lst [])))/\∀ b,jE (Its z) (g b) (tt b) (jP D (te b)) σ0 End W :=
 nG z.cps.size Pv h0 (fun H p=>⟨Nat.le_refl _,stop H p⟩) fun i H hi p=>⟨hi,fun x H' ⟨e,c,hc,hx⟩ b=>by subst e hx; exact turn i c _ hc hi p b⟩
theorem yO {K:PySem.W.Frag} {a:Addr} {xs:List V} (Pv:Nat->Hp->Prop) (h0:Pv 0 (upd H1 D (.lst []))) (hl:∀ i H,i<=xs.length->Pv i H->cT K H a xs) (stop:∀ H,Pv xs.length H->End H)
   (turn:∀ i x H,xs[i]?=some x->i<xs.length->Pv i H->∀ b,g b x σ0 H fun σ2 H2=>tt b σ2 H2 fun c H3=>if c=true then jP D (te b) σ2 H3 (Nx xs.length i Pv) else Nx xs.length i Pv H3) :
   ∃ W:Nat->Nat->Hp->Prop,(∃ m,W 0 m (upd H1 D (.lst [])))/\∀ b,jE (Xh K a) (g b) (tt b) (jP D (te b)) σ0 End W :=
 nG xs.length Pv h0 (fun H p=>⟨⟨xs,hl _ H (Nat.le_refl _) p,Nat.le_refl _⟩,stop H p⟩) fun i H hi p =>
   ⟨⟨xs,xs[i],hl i H (Nat.le_of_lt hi) p,by simp [hi]⟩,fun x H' ⟨e,y⟩ b=>by subst e; exact turn i x _ (y xs (hl i _ (Nat.le_of_lt hi) p)) hi p b⟩
theorem qw {K:PySem.W.Frag} {a:Addr} {xs:List V} (Pv:Nat->Hp->Prop) (h0:Pv 0 (upd H1 D (.lst []))) (hl:∀ i H,i<=xs.length->Pv i H->bW K H a xs) (stop:∀ H,Pv xs.length H->End H)
   (turn:∀ i x H,xs[i]?=some x->i<xs.length->Pv i H->∀ b,g b x σ0 H fun σ2 H2=>tt b σ2 H2 fun c H3=>if c=true then jP D (te b) σ2 H3 (Nx xs.length i Pv) else Nx xs.length i Pv H3) :
   ∃ W:Nat->Nat->Hp->Prop,(∃ m,W 0 m (upd H1 D (.lst [])))/\∀ b,jE (R7 K a) (g b) (tt b) (jP D (te b)) σ0 End W :=
 nG xs.length Pv h0 (fun H p=>⟨⟨xs,hl _ H (Nat.le_refl _) p,Nat.le_refl _⟩,stop H p⟩) fun i H hi p =>
   ⟨⟨xs,xs[i],hl i H (Nat.le_of_lt hi) p,by simp [hi]⟩,fun x H' ⟨e,y⟩ b=>by subst e; exact turn i x _ (y xs (hl i _ (Nat.le_of_lt hi) p)) hi p b⟩
theorem pB {lo:Int} {n:Nat} (Pv:Nat->Hp->Prop) (h0:Pv 0 (upd H1 D (.lst []))) (stop:∀ H,Pv n H->End H)
   (turn:∀ i H,i<n->Pv i H->∀ b,g b (.int (lo+i)) σ0 H fun σ2 H2=>tt b σ2 H2 fun c H3=>if c=true then jP D (te b) σ2 H3 (Nx n i Pv) else Nx n i Pv H3) :
   ∃ W:Nat->Nat->Hp->Prop,(∃ m,W 0 m (upd H1 D (.lst [])))/\∀ b,jE (Xi lo n) (g b) (tt b) (jP D (te b)) σ0 End W :=
 nG n Pv h0 (fun H p=>⟨Nat.le_refl _,stop H p⟩) fun i H hi p=>⟨hi,fun x H' ⟨e,hx⟩ b=>by subst e hx; exact turn i _ hi p b⟩
end
structure dU (H1 H:Hp) (D:Addr) (ys:List V):Prop where
 at':H D=some (.lst ys)
 same:Same H1 H
theorem dU.start {H1:Hp} {D:Addr} (h:H1 D=none):dU H1 (upd H1 D (.lst [])) D []:=⟨ao,fun b o e=>by rw [aB (aH e h)]; exact e⟩
theorem dU.put {H1 H:Hp} {D:Addr} {ys:List V} (h:H1 D=none) (G:dU H1 H D ys) (y:V):dU H1 (upd H D (.lst (ys++[y]))) D (ys++[y]):=⟨ao,fun b o e=>by rw [aB (aH e h)]; exact G.same b o e⟩
theorem Same.upd {H H1:Hp} {p:Addr} {o:HO} (s:Same H H1) (h:H1 p=none):Same H (upd H1 p o):=fun b u e=>by rw [aB (aH (s b u e) h)]; exact s b u e
theorem Same.tup {K:PySem.W.Frag} {H H':Hp} {a:Addr} {xs:List V} (e:Same H H') (h:bW K H a xs):bW K H' a xs:=by
 rcases h with (h | ⟨o,h⟩) | h
 . exact .inl (.inl (e _ _ h))
 . exact .inl (.inr ⟨o,e _ _ h⟩)
 . exact .inr h
def Ag (T n:String):Bool:=T == n || (T == "bool" && n == "int")
theorem Ah {K:PySem.W.Frag} {H:Hp} {x:V} {T:String} (h:iR K H x (.type T)):PySem.W.kitOne K (.type T) (.type "int")=some (Ag T "int")/\PySem.W.kitOne K (.type T) (.type "bool")=some (Ag T "bool")/\PySem.W.kitOne K (.type T) (.type "str")=some (Ag T "str")/\PySem.W.kitOne K (.type T) (.type "tuple")=some (Ag T "tuple"):=by
 cases h <;> exact ⟨rfl,rfl,rfl,rfl⟩
end L2
namespace L2
open PySem PySem.Spec PyProof.Rows
section
variable {X:Cx} {a b:Expr} {tA Mw:TT} {rest:List Expr} {pos:Pos}
theorem uq (ha:PT X a tA) (hb:PW X (.BoolOp .Or (b :: rest) pos) Mw):PT X (.BoolOp .Or (a :: b :: rest) pos) (tOr tA Mw):=(pw_or ha hb).pt
theorem tG (ha:PT X a tA) (hb:PW X (.BoolOp .And (b :: rest) pos) Mw):PT X (.BoolOp .And (a :: b :: rest) pos) (aaB tA Mw):=(pw_and ha hb).pt
end
theorem lt1 {a b:Nat}:([a]<[b])↔a<b:=by simp [List.cons_lt_cons_iff]
end L2
namespace L2
open PySem PySem.Spec PyProof.Rows
theorem Ob {α β:Type} {f:α->β} {l:List α} {i:Nat} {c:α} (h:l[i]?=some c):(l.take (i+1)).map f=(l.take i).map f++[f c]:=by
 rw [List.take_add_one,h,List.map_append]; rfl
theorem take_all {α β:Type} {f:α->β} {l:List α} {n:Nat} (h:l.length<=n):(l.take n).map f=l.map f:=by rw [List.take_of_length_le h]
theorem Cw {α β:Type} {f:α->β} {l:List α} {i m:Nat} (h:i<m) (hm:m<=sizeLine):((l.take i).map f).length<sizeLine:=by
 rw [List.length_map,List.length_take]; omega
theorem T4 {z:Str} {i c:Nat} (h:z.cps[i]?=some c):z.cps.toList[i]?=some c:=by simpa using h
end L2
namespace L2
open PySem PySem.Spec PyProof.Rows
def aZ (p:Addr) (H H':Hp):Prop:=∀ b o,b≠p->H b=some o->H' b=some o
theorem aZ.of {p:Addr} {H H':Hp} (s:Same H H'):aZ p H H':=fun b o _ e=>s b o e
theorem aZ.trans {p:Addr} {H H1 H2:Hp} (a:aZ p H H1) (b:aZ p H1 H2):aZ p H H2:=fun c o n e=>b c o n (a c o n e)
theorem aZ.upd {p:Addr} {H H1:Hp} {o:HO} (a:aZ p H H1):aZ p H (upd H1 p o):=fun c u n e=>by rw [aB n]; exact a c u n e
theorem aZ.new {p q:Addr} {H H1:Hp} {o:HO} (a:aZ p H H1) (h:H1 q=none):aZ p H (L2.upd H1 q o):=fun c u n e=>by rw [aB (aH (a c u n e) h)]; exact a c u n e
structure IxA (K:PySem.W.Frag) (x y:V) (H:Hp) (Q:VK):Prop where
 h:aaU K x y H Q
theorem MJ {X:Cx}:Xw X (IxA X.K):=fun a b pins s σ H x y v u Q I rx ry h hs=>Tt a b pins s σ H x y v u Q I rx ry h.h hs
theorem vm {K:PySem.W.Frag} {H:Hp} {p:Addr} {xs:List V} {i:Int} {v:V} {Q:VK} (h:H p=some (.lst xs)) (e:yI xs i=some v) (q:Q v H):IxA K (.ref p) (.int i) H Q:=⟨p,xs,i,v,rfl,rfl,cT.of h,e,q⟩
theorem abh {K:PySem.W.Frag} {H:Hp} {p:Addr} {xs:List V} {i:Int} {v:V} {Q:VK} (h:cT K H p xs) (e:yI xs i=some v) (q:Q v H):IxA K (.ref p) (.int i) H Q:=⟨p,xs,i,v,rfl,rfl,h,e,q⟩
structure IxT (K:PySem.W.Frag) (x y:V) (H:Hp) (Q:VK):Prop where
 h:aaV K x y H Q
theorem fV {X:Cx}:Xw X (IxT X.K):=fun a b pins s σ H x y v u Q I rx ry h hs=>Xx a b pins s σ H x y v u Q I rx ry h.h hs
theorem cP {K:PySem.W.Frag} {H:Hp} {p:Addr} {xs:List V} {i:Int} {v:V} {Q:VK} (h:bW K H p xs) (e:yI xs i=some v) (q:Q v H):IxT K (.ref p) (.int i) H Q:=⟨p,xs,i,v,rfl,rfl,h,e,q⟩
structure IxS (x y:V) (H:Hp) (Q:VK):Prop where
 h:aaW x y H Q
theorem X7 {X:Cx}:Xw X IxS:=fun a b pins s σ H x y v u Q I rx ry h hs=>Xy a b pins s σ H x y v u Q I rx ry h.h hs
theorem Oc {H:Hp} {z:Str} {i:Int} {c:Nat} {Q:VK} (hz:z.length<=sizeLine) (e:yI z.cps.toList i=some c) (q:Q (.str ⟨#[c]⟩) H):IxS (.str z) (.int i) H Q:=⟨z,i,c,rfl,rfl,hz,e,q⟩
structure abj (o i v:V) (H:Hp) (Q:Hp->Prop):Prop where
 h:Wi o i v H Q
theorem afr {X:Cx}:Xf X abj:=fun pins s σ H o i v ov iv u Q I ro ri rv h=>set_list pins s σ H o i v ov iv u Q I ro ri rv h.h
theorem setAt {H:Hp} {p:Addr} {xs:List V} {i:Int} {j:Nat} {v:V} {Q:Hp->Prop} (h:H p=some (.lst xs)) (e:R9 xs.length i=some j) (q:Q (upd H p (.lst (xs.set j v)))):abj (.ref p) (.int i) v H Q:=⟨p,xs,i,j,rfl,rfl,h,e,q⟩
end L2
namespace L2
open PySem PySem.Spec PyProof.Rows
def Od (z:Str) (lo hi:Option Int):Str:=⟨((z.cps.toList.drop (HT.d7 z.length 0 lo)).take (HT.d7 z.length z.length hi-HT.d7 z.length 0 lo)).toArray⟩
theorem X8 (lo hi:Option Int) (n:Nat):Builtin.Str.strSliceIndices lo hi 1 n=(List.range (HT.d7 n n hi-HT.d7 n 0 lo)).map (HT.d7 n 0 lo+·):=by
 have a:∀ (v:Option Int) (d:Nat),d<=n->(match v with | none=>(d:Int) | some i=>(let i:=if i<0 then i+(n:Int) else i; max 0 (min i (n:Int))))=((HT.d7 n d v:Nat):Int):=fun v d hd=>by
   cases v with
   | none=>rfl
   | some i =>
     show max 0 (min (if i<0 then i+(n:Int) else i) (n:Int))=((if i<0 then (i+(n:Int)).toNat else min i.toNat n:Nat):Int)
     by_cases h:i<0
     . rw [if_pos h,if_pos h]; omega
     . rw [if_neg h,if_neg h]; omega
 rw [<- sliceRange_one]
 unfold Builtin.Str.strSliceIndices
 have h1:=a lo 0 (Nat.zero_le _)
 have h2:=a hi n (Nat.le_refl _)
 simp only [show (1:Int) > 0 by decide,if_true] at h1 h2 ⊢
 rw [<- h1,<- h2]
 rfl
theorem vp (z:Str) (lo hi:Option Int):Txt.slice z lo hi=Od z lo hi:=by
 unfold Txt.slice Od
 rw [X8,pick_run]
 split
 . rename_i h
   have e:HT.d7 z.length z.length hi-HT.d7 z.length 0 lo=z.length:=by simpa using h
   have b:HT.d7 z.length z.length hi<=z.length:=by
     unfold HT.d7
     cases hi with
     | none=>exact Nat.le_refl _
     | some v=>simp only; split <;> omega
   by_cases h0:z.length=0
   . have e0:z.cps.toList=[]:=by
       apply List.eq_nil_of_length_eq_zero
       simpa [Str.length] using h0
     cases z with
     | mk cps =>
       have e1:cps=#[]:=by simpa using e0
       subst e1
       simp
   . have e1:HT.d7 z.length 0 lo=0:=by omega
     rw [e1,Nat.sub_zero,show HT.d7 z.length z.length hi=z.length by omega,List.drop_zero,List.take_of_length_le (by simp [Str.length])]
 . rfl
theorem Oe (z:Str) (k:Nat):Txt.slice z none (some (k:Int))=⟨(z.cps.toList.take k).toArray⟩:=by
 rw [vp]
 unfold Od
 rw [HT.Ck,HT.nC,List.drop_zero,Nat.sub_zero]
 congr 2
 rw [List.take_eq_take_iff]
 simp [Str.length]
 try omega
theorem Ke (z:Str) (i k:Nat):Txt.slice z (some (i:Int)) (some (k:Int))=⟨((z.cps.toList.take k).drop i).toArray⟩:=by
 rw [vp]
 unfold Od
 rw [HT.nC,HT.nC,List.drop_take]
 have el:z.cps.toList.length=z.length:=by simp [Str.length]
 congr 1
 by_cases h:i<=z.length
 . rw [Nat.min_eq_left h]
   congr 1
   rw [List.take_eq_take_iff,List.length_drop,el]
   omega
 . rw [List.drop_of_length_le (show z.cps.toList.length<=min i z.length by omega),List.drop_of_length_le (show z.cps.toList.length<=i by omega)]
   simp
end L2
namespace L2
open PySem PySem.Spec PyProof.Rows
def Yb (t:TE):TO:=fun σ H Q=>t σ H fun x H1=>match x with
 | .int i=>Q (some i) H1
 | _=>False
theorem Og {X:Cx} {e:Expr} {te:TE} (h:PE X e te):PO X (some e) (Yb te):=by
 intro pins s σ H Q I hw
 rw [evalPart_some]
 refine cY (h pins s σ H _ I hw) fun u s1 ⟨x,H1,I1,r1,q1⟩=>?_
 cases x with
 | int i=>obtain ⟨t,rfl⟩:=r1; exact ⟨some i,H1,I1,.int i t,q1⟩
 | _=>exact (show False from q1).elim
structure SlS (x:V) (lo hi:Option Int) (H:Hp) (Q:VK):Prop where
 h:∃ z,x=.str z/\z.length<=sizeLine/\Q (.str (Txt.slice z lo hi)) H
theorem T5 {X:Cx}:Z4 X SlS:=fun pins s σ H x v vl vu lo hi sl Q I rx hs pl pu h=>XS pins s σ H x v vl vu lo hi sl Q I rx hs pl pu h.h
theorem Ih {z:Str} {lo hi:Option Int} {H:Hp} {Q:VK} (hz:z.length<=sizeLine) (q:Q (.str (Txt.slice z lo hi)) H):SlS (.str z) lo hi H Q:=⟨z,rfl,hz,q⟩
theorem app_list (a b:Str):(a++b).cps.toList=a.cps.toList++b.cps.toList:=by
 show (a.cps++b.cps).toList=_
 simp
theorem len_list (a:Str):a.cps.toList.length=a.length:=by simp [Str.length]
end L2
namespace L2
open PySem PySem.Spec PyProof.Rows
section
variable {X:Cx} {elt kx vx iter tg:Expr} {te tk tv:TE} {D:Addr} {wi:TI} {g:TG} {tt:TT} {act:abk} {ifs:List Expr} {scope:Scope} {pos:Pos}
end
end L2
namespace L2
open PySem PySem.Spec PyProof.Rows
end L2
namespace L2
open PySem PySem.Spec PyProof.Rows
section
variable {X:Cx} {e tg iter:Expr} {ifs:List Expr} {gs:List Comprehension} {scope iH:Scope} {pos:Pos} {own cap:List Str} {ix:List Nat} {wi:TI} {g:BI->TG} {tt:BI->TT} {act:BI->Addr->abk} {tail:Addr->Env->Sem Unit} {newAcc:Sem Value} {ob:Obj} {o0:HO} {p:Pos}
end
section
variable {X:Cx} {elt kx vx tg iter tg1 iter1:Expr} {ifs afs:List Expr} {scope:Scope} {pos:Pos}
end
section
variable {X:Cx} {elt kx vx tg iter tg1 iter1:Expr} {ifs afs:List Expr} {scope iH:Scope} {pos:Pos} {own cap:List Str} {ix:List Nat} {wi:TI} {g g1:BI->TG} {tt tt1:BI->TT} {te tk tv:BI->TE} {wi1:BI->TI}
end
end L2
namespace L2
open PySem PySem.Spec PyProof.Rows
section
variable {X:Cx} {pins:List (Addr × Obj)} {σ:St} {H:Hp} {s:Shared} {h':Heap}
theorem Inv.T6 {t':Nat} {its:List Addr} (I:Inv X pins σ H s) (k:∀ b o,b ∉ its->s.heap.get? b=some o->h'.get? b=some o) (hf:∀ b∈its,oJ X pins H b):Inv X pins σ H { s with heap:=h',toks:=t' }:=by
 have nit:∀ b u,H b=some u->b ∉ its:=fun b u e z=>by rw [(hf b z).1] at e; cases e
 refine I.step (g':=s.gens) (d':=s.drawn) (ch:=its) (fun b hb=>⟨(hf b hb).2.2.2.1,(hf b hb).2.1,(hf b hb).2.2.2.2.1,(hf b hb).2.2.2.2.2⟩) (fun b o _ _ hc e _=>k b o hc e) (fun b o _ _ hc e _=>⟨o.slots,k b o hc e⟩) (fun _ _ _ _ n=>n)
   (fun b o hc e=>⟨o,k b o hc e⟩) (fun _ _ e=>e) (fun _ _ _ e=>e) (fun b ps e=>⟨#[],by rw [e]; simp⟩) (fun m hm=>?_) (fun b u e=>?_) I.bare
 . obtain ⟨o,es,ep,ho,r⟩:=hm
   exact ⟨o,es,ep,k _ o (fun z=>(hf _ z).2.1 rfl) ho,r⟩
 . refine (I.hok b u e).stay (fun c v hc q=>k c v ?_ q) (fun _ q=>q) fun _ _ q=>q
   rcases hc with z | z
   . rw [z]; exact nit b u e
   . exact nit c _ z
end
def Oh (lo c:Int) (n:Nat):It:=⟨fun i _=>i<n,fun i H x H'=>H'=H/\x=.int (lo+i * c),fun i _=>n<=i⟩
theorem Cy {P:Program} {w:World} {K:PySem.W.Frag} {tg:Expr} (it:Addr) (lo c:Int) (n:Nat):Turn P w K tg (Oh lo c n) [it] it (fun i h=>IsRangeIter h it (lo+(i:Nat) * c) ((n:Int)-(i:Nat)) c) where
 mem:=by simp
 obj:=fun i h st b hb=>by
   have e:b=it:=by simpa using hb
   subst e
   exact ⟨_,st,fun v z=>by cases (show Data.fields _=Data.cell v from z)⟩
 keep:=fun i h h' st k=>k it (by simp) _ st
 item:=by
   intro X hP hw hK hc i pins s σ H E I hf st hg
   subst hP hw hK
   obtain ⟨f0,f1,f2,f3,f4,f5⟩:=hf it (by simp)
   have W:=Walks.range (prog:=X.prog) (w:=X.w) (I.ok.hd hc) it lo c n
   refine W.item i s _ _ hg st fun v h' tk hv st' kk=>?_
   obtain ⟨t,rfl⟩:=hv
   have I1:Inv X pins σ H { s with heap:=h',toks:=tk }:=I.turned (fun b o hb e=>kk b o (by simpa using hb) e) f0 f1 f3 f4 f5
   exact ⟨_,rfl,sW (s:={ s with heap:=h',toks:=tk }) (n:="range_iterator") st' rfl rfl (by decide) ⟨.int (lo+i * c),H,I1,⟨t,rfl⟩,⟨rfl,rfl⟩,st',fun b hb=>(hf b hb).1⟩⟩
 done:=by
   intro X hP hw hK hc i pins s σ H E I hf st hg
   subst hP hw hK
   obtain ⟨f0,f1,f2,f3,f4,f5⟩:=hf it (by simp)
   exact wpAny_pyNext_range_end (I.ok.hd hc) st (by have:n<=i:=hg; omega) fun h' eb=>⟨rfl,I.turned (t':=s.toks) (fun b o hb e=>eb b o hb e) f0 f1 f3 f4 f5⟩
 self:=fun _ _ _ _ _ st h=>wpAny_pyIter_rangeiter st h
def abl (ta:TA):TI:=fun σ H R=>ta σ H fun vs H1=>∃ i j c:Int,vs=[.int i,.int j,.int c]/\(0<=i/\i<1000000/\0<=j/\j<1000000/\0<c/\c<1000000)/\R (Oh i c (Builtin.Range.rangeSize i j c).toNat) H1
theorem Kf {X:Cx} {tg a b c:Expr} {ta:TA} {p pos:Pos} (hg:Gl X "range") (hm:X.mg "range" = none) (ha:PA X [a,b,c] ta) (hs:starEach [a,b,c] X.env=[(false,eval a X.env),(false,eval b X.env),(false,eval c X.env)]:=by rfl) (hs2:starEach [b,c] X.env=[(false,eval b X.env),(false,eval c X.env)]:=by rfl) :
   PI X tg (.Call (.Name "range" p) [a,b,c] [] pos) (abl ta):=by
 intro pins s σ H R I h
 refine Call_ (uU I hg hm boot_range (PyProof.Rows.callWith_type1 (cY (ha pos pins s σ H _ I h) fun us s1 ⟨vs,H1,I1,r1,q1⟩=>?_) (by rw [hs,hs2]) (by rw [hs2]; rfl)))
 obtain ⟨i,j,d,e,⟨q1,q2,q3,q4,q5,q6⟩,q⟩:=q1
 subst e
 cases r1 with
 | cons r rr =>
   cases rr with
   | cons r' rr =>
     cases rr with
     | cons r'' rr =>
       cases rr
       obtain ⟨t,rfl⟩:=r
       obtain ⟨t',rfl⟩:=r'
       obtain ⟨t'',rfl⟩:=r''
       have sz0:0<=Builtin.Range.rangeSize i j d:=by
         unfold Builtin.Range.rangeSize
         rw [if_pos q5]
         split
         . have:=Int.ediv_nonneg (a:=j-i-1) (b:=d) (by omega) (by omega)
           omega
         . exact Int.le_refl 0
       have sz1:Builtin.Range.rangeSize i j d<=1000000:=by
         unfold Builtin.Range.rangeSize
         rw [if_pos q5]
         split
         . have:=Int.ediv_le_self (a:=j-i-1) d (by omega)
           omega
         . omega
       have fits:∀ z:Int,-1<=z->z<=3000000->Builtin.Range.rangeFitsLong z=true:=fun z h1 h2=>by
         unfold Builtin.Range.rangeFitsLong
         simp
         omega
       have small:Builtin.Range.small i j d=true:=by
         unfold Builtin.Range.small
         rw [fits i (by omega) (by omega),fits j (by omega) (by omega),fits d (by omega) (by omega),fits _ (by omega) (by omega),if_pos q5,fits (j+(d-1)) (by omega) (by omega)]
         simp
       refine call_range_3 (by omega) (wpAny_pyIter_range (IsRange.new ..) small ?_) (.inl (PyProof.noPylong_small (by omega)))
       have I2:Inv X pins σ H1 { s1 with heap:=s1.heap.push { cls:=.type "range",data:=.fields #[.int i t,.int j t',.int d t''] } }:=I1.kept (t':=s1.toks) fun b o e=>Heap.get?_push_of_some _ e
       refine ⟨(s1.heap.push { cls:=.type "range",data:=.fields #[.int i t,.int j t',.int d t''] }).objs.size,[(s1.heap.push { cls:=.type "range",data:=.fields #[.int i t,.int j t',.int d t''] }).objs.size],_,_,H1,rfl,
         I2.kept (t':=s1.toks) fun b o e=>Heap.get?_push_of_some _ e,Cy _ i d (Builtin.Range.rangeSize i j d).toNat,?_,fun b hb=>?_,q⟩
       . have e1:i+((0:Nat):Int) * d=i:=by simp
         have e2:((Builtin.Range.rangeSize i j d).toNat:Int)-((0:Nat):Int)=Builtin.Range.rangeSize i j d:=by omega
         show IsRangeIter _ _ (i+((0:Nat):Int) * d) (((Builtin.Range.rangeSize i j d).toNat:Int)-((0:Nat):Int)) d
         rw [e1,e2]
         exact Heap.get?_push_size _ rfl
       . have e:b=(s1.heap.push { cls:=.type "range",data:=.fields #[.int i t,.int j t',.int d t''] }).objs.size:=by simpa using hb
         subst e
         exact I2.zU (Nat.le_refl _) (I2.hok.fresh (Nat.le_refl _))
end L2
namespace L2
open PySem PySem.Spec PyProof.Rows
def uI (ks:List Key) (k:Key):Bool:=ks.any fun x=>decide (x=k)
theorem Ii {ks:List Key} {k:Key}:uI ks k=true↔k∈ks:=by
 unfold uI
 rw [List.any_eq_true]
 constructor
 . rintro ⟨x,h,e⟩
   rw [<- of_decide_eq_true e]; exact h
 . exact fun h=>⟨k,h,decide_eq_true rfl⟩
theorem Oi (ks:List Key) (k k':Key):uI (ks++[k]) k'=(uI ks k' || decide (k'=k)):=by
 unfold uI
 rw [List.any_append,List.any_cons,List.any_nil,Bool.or_false]
 congr 1
 rw [Bool.eq_iff_iff,decide_eq_true_iff,decide_eq_true_iff]
 exact ⟨Eq.symm,Eq.symm⟩
def cZ (ks:List Key):Nat->List Key
 | 0=>[]
 | i+1=>match ks[i]? with
   | some k=>if uI (cZ ks i) k=true then cZ ks i else cZ ks i++[k]
   | none=>cZ ks i
theorem nJ {ks:List Key} {i:Nat} {k:Key} (h:ks[i]?=some k):cZ ks (i+1)=if uI (cZ ks i) k=true then cZ ks i else cZ ks i++[k]:=by
 show (match ks[i]? with | some k=>_ | none=>_)=_
 rw [h]
theorem uJ (ks:List Key):∀ i,(cZ ks i).length<=i
 | 0=>Nat.le_refl _
 | i+1=>by
   have:=uJ ks i
   unfold cZ
   split
   . split
     . omega
     . rw [List.length_append]; simp; omega
   . omega
theorem vq {ks:List Key} (h:ks.Nodup):∀ i,i<=ks.length->cZ ks i=ks.take i
 | 0,_=>rfl
 | i+1,hi=>by
   have hi':i<ks.length:=hi
   have ek:ks[i]?=some ks[i]:=List.getElem?_eq_getElem hi'
   have e:=vq h i (Nat.le_of_lt hi')
   rw [nJ ek,e,if_neg,List.take_add_one,ek]
   . rfl
   . intro z
     have z':=Ii.mp z
     obtain ⟨j,hj,ej⟩:=List.mem_iff_getElem.mp z'
     rw [List.length_take] at hj
     rw [List.getElem_take] at ej
     have:=(List.getElem_inj (i:=j) (j:=i) (h₀:=by omega) (h₁:=hi') h).mp ej
     omega
abbrev jF (led:Bool):Obj:={ cls:=.type "set",dict:=none,data:=.set #[] 0 (.fresh 0 0 led) }
section
variable {prog:Program} {w:World} {A:Around} {E:Value->Shared->Prop} {s:Shared}
theorem setLoop {R:Result->Shared->Prop} {I:Addr} {fp wr:List Addr} {G:Array GenState->Array GenState->Prop} {P:Nat->Value->Prop} {St:Nat->Shared->Prop} {ks:List Key} (W:WalksS prog w A.in1 I fp wr G ks.length P St) (Z:Addr) (nZ:Z ∉ fp)
   (T7:∀ i v,P i v->∃ k,ks[i]?=some k/\(aK prog w).is k v=true/\v.scannable=true) (few:ks.length+1<scanBound) :
   ∀ (j i:Nat) (s:Shared),ks.length-i=j->i<=ks.length->St i s->s.heap.SetOf (aK prog w) Z (uI (cZ ks i)) (cZ ks i).length ->
     (∀ s',Moved (Z :: wr) G s s'->s'.heap.SetOf (aK prog w) Z (uI (cZ ks ks.length)) (cZ ks ks.length).length->R (.ok (.ret .none)) s') ->
     codeAny (model prog w) A (.builtin "set.update.loop" ⟨[.ref Z,.ref I],[]⟩) R s:=by
 have nW:Z ∉ wr:=fun z=>nZ (W.sub _ z)
 have sub:∀ b∈wr,b∈Z :: wr:=fun b z=>List.mem_cons_of_mem _ z
 intro j
 induction j with
 | zero =>
   intro i s ej ei st zS out
   have ei':i=ks.length:=by omega
   subst ei'
   refine codeAny_builtin PyProof.Rows.F.entry_set_update_loop ?_
   rw [Around.under_plainId PyProof.Rows.F.plain_set_update_loop _]
   show wpAny _ A.in1 (pyNext (.ref I) >>= _) _ _ s
   refine wpAny_bind (W.done s _ _ st fun s' mv=>?_)
   show wpAny _ A.in1 (ret Value.none) _ _ s'
   obtain ⟨o,es,ep,t,ho,rest⟩:=zS
   exact wpAny_pure (out s' (mv.mono sub) ⟨o,es,ep,t,mv.heap Z _ nW ho,rest⟩)
 | succ j ih =>
   intro i s ej ei st zS out
   have lt:i<ks.length:=by omega
   refine codeAny_builtin PyProof.Rows.F.entry_set_update_loop ?_
   rw [Around.under_plainId PyProof.Rows.F.plain_set_update_loop _]
   show wpAny _ A.in1 (pyNext (.ref I) >>= _) _ _ s
   refine wpAny_bind (W.item i s _ _ lt st fun v s' pv st' mv=>?_)
   obtain ⟨k,ek,hk,sc⟩:=T7 i v pv
   have zS':s'.heap.SetOf (aK prog w) Z (uI (cZ ks i)) (cZ ks i).length:=let ⟨o,es,ep,t,ho,rest⟩:=zS; ⟨o,es,ep,t,mv.heap Z _ nW ho,rest⟩
   show wpAny _ A.in1 (holding [v] (setAdd Z v) >>= _) _ _ s'
   refine wpAny_bind (wpAny_holding ?_)
   unfold setAdd
   refine wpAny_holding ?_
   refine wpAny_bind ((aK prog w).pyHash hk ?_)
   have le:=uJ ks i
   refine wpAny_setAddHashed_of (knd:=aK prog w) (s:={ s' with toks:=s'.toks+1 }) hk sc zS' (by omega) fun h2 sb zS2=>?_
   have zS3:h2.SetOf (aK prog w) Z (uI (cZ ks (i+1))) (cZ ks (i+1)).length:=by
     have Kg:h2.SetOf (aK prog w) Z (fun k'=>uI (cZ ks i) k' || decide (k'=k)) (if uI (cZ ks i) k=true then (cZ ks i).length else (cZ ks i).length+1):=zS2
     rw [nJ ek]
     cases q:uI (cZ ks i) k with
     | true =>
       rw [q,if_pos rfl] at Kg
       rw [if_pos rfl]
       have ef:(fun k'=>uI (cZ ks i) k' || decide (k'=k))=uI (cZ ks i):=funext fun k'=>by
         by_cases z:k'=k
         . subst z; rw [q]; rfl
         . rw [decide_eq_false z,Bool.or_false]
       rw [ef] at Kg
       exact Kg
     | false =>
       rw [q,if_neg Bool.false_ne_true] at Kg
       rw [if_neg Bool.false_ne_true,List.length_append]
       have ef:(fun k'=>uI (cZ ks i) k' || decide (k'=k))=uI (cZ ks i++[k]):=funext fun k'=>(Oi _ _ _).symm
       rw [ef] at Kg
       exact Kg
   refine wpAny_pure ⟨plainId_quiet PyProof.Rows.F.plain_set_update_loop _,ih (i+1) _ (by omega) lt (W.frame _ s' _ _ st' (Nat.le_succ _) fun b hb o e=>?_) zS3 fun s'' mv2 z2=>?_⟩
   . rw [sb.2 b (fun z:b=Z=>nZ (by rw [<- z]; exact hb))]; exact e
   . refine out s'' (Moved.trans W.gtrans ((mv.mono sub).then_heap (Nat.le_succ _) fun b o hb e=>?_) mv2) z2
     rw [sb.2 b (fun z:b=Z=>hb (by rw [z]; exact List.mem_cons_self))]; exact e
theorem T8 {l:Addr} {items:Array Value} {ks:List Key} {Q:Value->Shared->Prop} (hh:A.handled=none) (hl:s.heap.IsList l items) (hz:items.size=ks.length)
   (T7:∀ (i:Nat) (v:Value),items[i]?=some v->∃ k,ks[i]?=some k/\(aK prog w).is k v=true/\v.scannable=true) (few:ks.length+1<scanBound)
   (h:∀ (h':Heap) (tk:Nat),h'.SetOf (aK prog w) s.heap.objs.size (uI (cZ ks ks.length)) (cZ ks ks.length).length->(∀ b o,s.heap.get? b=some o->h'.get? b=some o)->Q (.ref s.heap.objs.size) { s with heap:=h',toks:=tk }) :
   wpAny (model prog w) A (call (.type "set") [.ref l]) Q E s:=by
 obtain ⟨cm,tm,hmro⟩:=PySem.F.called_set.mro
 have made:=PySem.F.called_set.made
 have afv:=PySem.F.called_set.sub
 refine wpAny_call (codeAny_of_tree ?_)
 show wpAny _ _ (callAny (.type "set") _) _ _ _
 refine wpAny_pure ⟨Code.quiet_builtin _ (by decide +kernel),codeAny_builtin PySem.F.entry_type_call ?_⟩
 rw [Around.under_plain (weight_type_call_type "set" [.ref l] []) rfl]
 have c1:=PySem.F.called_set.notType
 have c2:=PySem.F.called_set.canCreate
 have c3:=PySem.F.typeCall_set_1 (.ref l)
 repeat (any_goals (first | assumption | wp_step))
 generalize hN:s.heap.objs.size=N at h
 refine codeAny_mono (code_set_new_1 (.ref l) (E:=E) (Q₁:=fun ob s1=>∃ led:Bool,ob=.ref s.heap.objs.size/\s1={ s with heap:=s.heap.push (jF led) }) fun led=>⟨led,rfl,rfl⟩) fun r s1 hr=>?_
 cases r with
 | error e=>exact hr
 | ok fl =>
   cases fl with
   | ret ob =>
     obtain ⟨led,rfl,rfl⟩:=hr
     have gS:(s.heap.push (jF led)).get? s.heap.objs.size=some (jF led):=Heap.get?_push_size _ rfl
     have hT:Shared.TypeIs { s with heap:=s.heap.push (jF led) } (.ref s.heap.objs.size) "set":=⟨_,gS,rfl⟩
     have li:=PySem.F.called_set.init.lookup
     have bi:=PySem.F.called_set.init.bind (.ref s.heap.objs.size)
     repeat (any_goals (first | assumption | wp_step))
     refine codeAny_mono (codeAny_call_builtin (R:=wants (fun r s2=>r=.none/\∃ h' tk,s2={ s with heap:=h',toks:=tk }/\h'.SetOf (aK prog w) s.heap.objs.size (uI (cZ ks ks.length)) (cZ ks ks.length).length/\(∀ b o,s.heap.get? b=some o->h'.get? b=some o)) E)
       PySem.F.called_set.init.plain PySem.F.entry_set_init (check_set_init_1 hT ?_)) fun r2 s2 hr2=>?_
     . obtain ⟨ol,gl,cl,nl,dl⟩:=hl
       obtain ⟨oc,od,oa,os⟩:=ol
       simp only at cl dl
       subst cl dl
       have gl':(s.heap.push (jF led)).get? l=some { cls:=.type "list",dict:=od,data:=.seq items nl,slots:=os }:=Heap.get?_push_of_some _ gl
       have t1:=PySem.F.sub_list_set
       have t2:=PySem.F.sub_list_frozenset
       have t3:(Value.type "list" == Value.type "dict")=false:=by decide
       have lst:(s.heap.push (jF led)).IsList l items:=⟨_,gl',rfl,nl,rfl⟩
       unfold Builtin.«set.__init__» noKeywords Builtin.Frozenset.updateFrom
       generalize hPI:pyIter=PI
       wp_walk
       subst hPI
       refine wpAny_pyIter_list lst ?_
       refine (wpAny_bind (wpAny_runValue ?_))
       have lS:l<s.heap.objs.size:=Heap.lt_size gl
       have h3:A.in1.in1.in1.handled=none:=by simp [hh]
       have sz:(s.heap.push (jF led)).objs.size=s.heap.objs.size+1:=Heap.size_push ..
       have n1:l≠(s.heap.push (jF led)).objs.size:=by rw [sz]; exact Nat.ne_of_lt (Nat.lt_succ_of_lt lS)
       have n2:s.heap.objs.size ∉ [(s.heap.push (jF led)).objs.size,l]:=by
         rw [sz]
         intro z
         rcases List.mem_cons.mp z with z | z
         . exact absurd z (Nat.ne_of_lt (Nat.lt_succ_self _))
         . exact absurd (List.mem_singleton.mp z) (Nat.ne_of_gt lS)
       have W:=(Walks.list (prog:=prog) (w:=w) h3 _ l n1 items).toS
       rw [hz] at W
       refine setLoop W s.heap.objs.size n2 T7 few (ks.length-0) 0 _ rfl (Nat.zero_le _) ⟨⟨_,Heap.get?_push_size _ rfl,rfl,rfl⟩,lst.push _⟩ ?_ fun s' mv z=>?_
       . have g2:((s.heap.push (jF led)).push { cls:=.type "list_iterator",data:=.fields #[.ref l,.int 0 0] }).get? s.heap.objs.size=some (jF led):=Heap.get?_push_of_some _ gS
         exact ⟨_,#[],0,_,g2,⟨rfl,rfl,rfl⟩,rfl,fun e he=>by simp at he,fun k=>by simp [cZ,uI],by decide,rfl,rfl⟩
       . obtain ⟨h',g',d',tk',os'⟩:=s'
         obtain rfl:g'=s.gens:=mv.gens
         obtain rfl:d'=s.drawn:=mv.drawn
         obtain rfl:os'=s.os:=mv.os
         show wpAny _ _ _ _ _ _
         refine wpAny_pure ?_
         show wpAny _ _ (ret Value.none) _ _ _
         refine wpAny_pure ⟨rfl,h',tk',rfl,z,fun b o e=>?_⟩
         have lb:b<s.heap.objs.size:=Heap.lt_size e
         refine mv.heap b o (fun z=>?_) (Heap.get?_push_of_some _ (Heap.get?_push_of_some _ e))
         rcases List.mem_cons.mp z with z | z
         . exact absurd z (Nat.ne_of_lt lb)
         . exact absurd (List.mem_singleton.mp z) (by rw [sz]; exact Nat.ne_of_lt (Nat.lt_succ_of_lt lb))
     . cases r2 with
       | error e=>exact hr2
       | ok fl2 =>
         cases fl2 with
         | ret r =>
           obtain ⟨rfl,h',tk,rfl,zS,kk⟩:=hr2
           repeat (any_goals (first | assumption | wp_step))
           subst hN
           exact h _ _ zS kk
         | _=>exact hr2.elim
   | _=>exact hr.elim
end
end L2
namespace L2
open PySem PySem.Spec PyProof.Rows
section
variable {X:Cx}
theorem yP (c:Nat):∀ (n:Nat) (a:Array Nat),(List.replicate n (#[c]:Array Nat)).foldl (·++·) a=a++(List.replicate n c).toArray
 | 0,a=>by simp
 | n+1,a=>by
   rw [List.replicate_succ,List.foldl_cons,yP c n,List.replicate_succ]
   apply Array.ext'
   simp
theorem T9:gW X (binaryOp .Mult) (fun x y H Q=>∃ (c:Nat) (n:Int),x=.str ⟨#[c]⟩/\y=.int n/\1<=n/\n<=1000/\Q (.str ⟨(List.replicate n.toNat c).toArray⟩) H):=by
 intro pins s σ H x y v u Q I rx ry h
 obtain ⟨c,n,rfl,rfl,h1,h2,q⟩:=h
 obtain ⟨t,rfl⟩:=rx
 obtain ⟨t',rfl⟩:=ry
 have n1:¬ n<1:=by omega
 have l1:(⟨#[c]⟩:Str).length=1:=rfl
 refine PySem.P.mul_str (by rw [decide_eq_false (by omega),decide_eq_false (by omega)]; rfl) (fun _ _ z=>?_) (fun _ _=>?_) ?_
 . rw [l1] at z
   have:(1:Int)<=(2 ^ 63-1) / n:=by
     rw [Int.le_ediv_iff_mul_le (by omega)]
     omega
   have z':((1:Nat):Int) > (2 ^ 63-1) / n:=z
   omega
 . rw [l1,Nat.one_mul]
   show decide (n.toNat > sizeLine)=false
   rw [decide_eq_false_iff_not,sizeLine_eq]
   omega
 . rw [if_neg n1]
   by_cases e1:n=1
   . subst e1
     rw [if_pos (by simp)]
     exact ⟨.str ⟨#[c]⟩,H,I,⟨t,rfl⟩,q⟩
   . rw [if_neg (by
       intro z
       rw [Bool.or_eq_true] at z
       rcases z with z | z
       . exact e1 (beq_iff_eq.mp z)
       . rw [l1] at z; exact absurd z (by decide)),yP]
     have e2:(#[]:Array Nat)++(List.replicate n.toNat c).toArray=(List.replicate n.toNat c).toArray:=by simp
     rw [e2]
     refine ⟨?_,?_⟩
     . show (List.replicate n.toNat c).toArray.size<=sizeLine
       rw [List.size_toArray,List.length_replicate,sizeLine_eq]; omega
     . exact ⟨.str _,H,I.tok _,⟨_,rfl⟩,q⟩
end
end L2
namespace L2
open PySem PySem.Spec PyProof.Rows
section
variable {prog:Program} {w:World} {A:Around} {E:Value->Shared->Prop} {s:Shared}
end
end L2
namespace L2
open PySem PySem.Spec PyProof.Rows
section
variable {X:Cx}
def Oj (P:Program) (w:World) (p:Addr) (ks:List Key):Heap->Prop:=fun h=>h.SetOf (aK P w) p (uI (cZ ks ks.length)) (cZ ks ks.length).length
theorem Ua:∀ {ks:List Key} {us:List Value},Vals (ks.map kV) us->∀ (i:Nat) (v:Value),us[i]?=some v->∃ k,ks[i]?=some k/\(aK X.prog X.w).is k v=true/\v.scannable=true:=by
 intro ks us r i v e
 obtain ⟨k,ek⟩:∃ k,ks[i]?=some k:=by
   have hl:=r.length
   rw [List.length_map] at hl
   have:i<us.length:=by
     rcases Nat.lt_or_ge i us.length with z | z
     . exact z
     . rw [List.getElem?_eq_none z] at e; cases e
   exact ⟨ks[i],List.getElem?_eq_getElem (by omega)⟩
 obtain ⟨u,eu,ru⟩:=r.get (i:=i) (x:=kV k) (by rw [List.getElem?_map,ek]; rfl)
 rw [e] at eu
 cases eu
 refine ⟨k,ek,u9 ru,?_⟩
 cases k with
 | inl j=>cases j with
   | none=>cases (show v=Value.none from ru); rfl
   | some j=>obtain ⟨t,rfl⟩:=(show ∃ t,v=Value.int j t from ru); rfl
 | inr x=>obtain ⟨t,rfl⟩:=(show ∃ t,v=Value.str x t from ru); rfl
theorem Ol (hc:X.calm=true):dM X (.type "set") (fun xs H Q=>∃ p ks,xs=[.ref p]/\cT X.K H p (ks.map kV)/\ks.length<4000/\∀ l,H l=none->Q (.ref l) (upd H l (.ext (Oj X.prog X.w l ks)))):=by
 intro pins s σ H xs us Q I r h
 obtain ⟨p,ks,rfl,hq,h40,q⟩:=h
 obtain ⟨u,rfl,ru⟩:=vals1 r
 cases ru
 obtain ⟨its,rv,pl,_⟩:=I.list hq
 have hlen:its.length=ks.length:=by rw [<- rv.length,List.length_map]
 refine T8 (I.ok.hd hc) pl.isList (by rw [List.size_toArray]; exact hlen) (fun i v e=>Ua (X:=X) rv i v (by simpa using e)) (by unfold scanBound; omega) fun h' tk zS kk=>?_
 refine ⟨.ref s.heap.objs.size,_,I.laid (t':=tk) (o:=.ext (Oj X.prog X.w s.heap.objs.size ks)) kk (Nat.le_refl _) ⟨zS,?_,?_⟩,rfl,q _ (I.hok.fresh (Nat.le_refl _))⟩
 . obtain ⟨o,_,_,_,e,_⟩:=zS
   exact ⟨o,e⟩
 . intro h1 h2 z k
   obtain ⟨o,es,ep,t,e,rest⟩:=z
   exact ⟨o,es,ep,t,k o e,rest⟩
theorem Kh:dM X (.builtin "len") (fun xs H Q=>∃ p ks,xs=[.ref p]/\H p=some (.ext (Oj X.prog X.w p ks))/\Q (.int (cZ ks ks.length).length) H):=by
 intro pins s σ H xs us Q I r h
 obtain ⟨p,ks,rfl,hp,q⟩:=h
 obtain ⟨u,rfl,ru⟩:=vals1 r
 cases ru
 obtain ⟨⟨o,es,ep,t,ho,hex,hd,hel,hmem,hb,hf,hn⟩,_⟩:=(show bQ X.prog X.w H s.heap p (.ext (Oj X.prog X.w p ks)) from I.hok p _ hp)
 refine call_len_set ho hex hd hf (by unfold scanBound at hb; omega) ?_
 exact ⟨.int (cZ ks ks.length).length,H,I.tok _,⟨_,by rw [hn]⟩,q⟩
theorem Kl:MtM X "dict.update" (fun x xs H Q=>∃ a b kvs more,x=.ref a/\xs=[.ref b]/\a≠b/\H a=some (.dK kvs)/\H b=some (.dK more)/\kvs.length+more.length<=sizeLine/\Q .non (upd H a (.dK (oY kvs more)))):=by
 intro pins s σ H x xs v us Q I rx rs h
 obtain ⟨a,b,kvs,more,rfl,rfl,ne,ha,hb,hz,q⟩:=h
 cases (show v=Value.ref a from rx)
 obtain ⟨u,rfl,ru⟩:=vals1 rs
 cases ru
 obtain ⟨z1,d1,vs1,Yc,dd1⟩:=vd I.hok ha
 obtain ⟨z2,d2,vs2,Yd,dd2⟩:=vd I.hok hb
 refine call_meetsIn PySem.F.slot_dict_update dd1.typeIs PySem.F.entry_dict_update (PySem.F.args_dict_update_2 _ _) (meets_dict_update (aK X.prog X.w) a b ne d2) ⟨vs1,vs2,dd1,dd2,by rw [<- Yc.length,<- Yd.length]; exact hz,fun h' m1 m2 sb=>?_⟩
 have he:∃ q,h'.get? a=some q:=let ⟨q,_,_,hq,_⟩:=m1; ⟨q,hq⟩
 have hl:(oY kvs more).length<=sizeLine:=by
   refine Nat.le_trans ?_ hz
   clear hz q Yd dd2 m1 m2 hb z2 ha Yc dd1 z1
   induction more generalizing kvs with
   | nil=>exact Nat.le_refl _
   | cons p r ih =>
     have h1:=ih (kvs:=putK kvs p.1 p.2)
     have h2:=gC kvs p.1 p.2
     show (oY (putK kvs p.1 p.2) r).length<=_
     rw [List.length_cons]
     omega
 exact ⟨.non,_,uF I (by rw [ha]; exact True.intro) sb he (Ad hl d1 (Yd.merge Yc) m1),rfl,q⟩
end
section
variable {prog:Program} {w:World} {A:Around} {E:Value->Shared->Prop} {s:Shared}
theorem Km {x:Value} {ss:List Str} {Q:Value->Shared->Prop} (h64:ss.length<64)
   (col:∀ (R:List Value->Shared->Prop),(∀ (h':Heap) (tk:Nat) (vs:List Value),(∀ b o,s.heap.get? b=some o->h'.get? b=some o)->StrsAre vs ss->R vs { s with heap:=h',toks:=tk })->wpAny (model prog w) A.in1 (collect x) R E s)
   (h:∀ (h1 h':Heap) (tk:Nat) (out:List Value) (ss':List Str) (n:Nat),(∀ b o,s.heap.get? b=some o->h1.get? b=some o)->(∀ b o,h1.get? b=some o->h'.get? b=some o)->h'.get? h1.objs.size=some (seqObj "list" out.toArray n)->StrsAre out ss'->ss'.Perm ss->sortedS ss'=true->Q (.ref h1.objs.size) { s with heap:=h',toks:=tk }) :
   wpAny (model prog w) A (call (.builtin "sorted") [x]) Q E s:=by
 refine Calls.call_function_entry kind_sorted plain_sorted entry_sorted (args_sorted1 _) ?_
 unfold Builtin.«sorted»
 refine wpAny_bind (m:=checkCount "sorted" 1 1 _) (wpAny_pure ?_)
 refine wpAny_bind (col _ fun h' tk vs kk hS=>?_)
 have hl:vs.length=ss.length:=by rw [<- hS.strs,List.length_map]
 have mC:sizeLine=16777216:=sizeLine_eq
 refine wpAny_bind (wpAny_newList ?_ (by omega))
 have g0:(h'.push (seqObj "list" vs.toArray 0)).get? h'.objs.size=some (seqObj "list" vs.toArray 0):=Heap.get?_push_size _ rfl
 refine wpAny_bind (wpAny_holding (wpAny_call_entry slot_list_sort (s:={ s with heap:=h'.push (seqObj "list" vs.toArray 0),toks:=tk }) ⟨_,g0,rfl⟩ entry_list_sort
   (list_sort_treeK (s:={ s with heap:=h'.push (seqObj "list" vs.toArray 0),toks:=tk }) strKind_oneLt g0 hS.keysOf (fun v₁ v₂ rest e=>keyKind_strs (by rw [<- e]; exact hS)) (by omega) fun st' p1 p2=>⟨_,rfl,?_⟩) (args_list_sort _)))
 obtain ⟨ss',q1,q2,q3⟩:=sorted_out_str hS p1 p2
 obtain ⟨n,hn⟩:=sortedHeap_at (vs:=vs) (out:=(arrOf st').map (·.2)) g0
 refine wpAny_pure ⟨_,rfl,h h' _ tk ((arrOf st').map (·.2)).toList ss' n kk (fun b o e1=>?_) (by rw [Array.toArray_toList]; exact hn) q1 q2 q3⟩
 have lt:b<h'.objs.size:=Heap.lt_size e1
 show (sortedHeap (h'.push (seqObj "list" vs.toArray 0)) h'.objs.size vs _).get? b=some o
 rw [sortedHeap_old (Nat.ne_of_lt lt) (by rw [Heap.size_push]; exact Nat.lt_succ_of_lt lt)]
 exact Heap.get?_push_of_some _ e1
end
section
variable {X:Cx}
theorem Ub:∀ {ss:List Str} {us:List Value},StrsAre us ss->Vals (ss.map V.str) us:=by
 intro ss us h
 induction h with
 | nil=>exact .nil
 | cons x t _ ih=>exact .cons ⟨t,rfl⟩ ih
theorem Ij:∀ {ss:List Str} {us:List Value},us.length=ss.length->(∀ (i:Nat) (v:Value),us[i]?=some v->∃ x t,ss[i]?=some x/\v=.str x t)->StrsAre us ss
 | [],[],_,_=>.nil
 | x :: ss,u :: us,hl,h=>by
   obtain ⟨y,t,e,rfl⟩:=h 0 u rfl
   cases (show some x=some y from e)
   exact .cons x t (Ij (by simpa using hl) fun i v e=>h (i+1) v (by simpa using e))
 | [],_ :: _,hl,_=>by simp at hl
 | _ :: _,[],hl,_=>by simp at hl
theorem Ai (hc:X.calm=true):dM X (.builtin "sorted") (fun xs H Q=>∃ p kvs ss,xs=[.ref p]/\H p=some (.dK kvs)/\kvs.map (·.1)=ss.map Sum.inr/\ss.length<64/\∀ l ss',H l=none->ss'.Perm ss->sortedS ss'=true->Q (.ref l) (upd H l (.lst (ss'.map V.str)))):=by
 intro pins s σ H xs us Q I r h
 obtain ⟨p,kvs,ss,rfl,hp,hk,h64,q⟩:=h
 obtain ⟨u,rfl,ru⟩:=vals1 r
 cases ru
 obtain ⟨z,d,vs,rel,dd⟩:=vd I.hok hp
 have hl:kvs.length=ss.length:=by have:=congrArg List.length hk; simpa using this
 have hvl:vs.length=ss.length:=by rw [<- rel.length]; exact hl
 have mC:sizeLine=16777216:=sizeLine_eq
 obtain ⟨ep,hat⟩:=dd.dictAt
 refine Km h64 (fun R hR=>PySem.W.kdu_collect (A:=X.A.in1) (PySem.W.kdl_dict (knd:=aK X.prog X.w) (kvs:=vs) (ep:=ep) d) (by simpa using I.ok.hd hc) hat (by omega) fun h' tk acc kk hacc=>hR h' tk acc.toList kk ?_) fun h1 h' tk out ss' n k1 k2 ho hS hp2 hs=>?_
 . refine Ij (by rw [Array.length_toList]; exact hacc.1.trans hvl) fun i v e=>?_
   obtain ⟨k,x,ek,hk'⟩:=hacc.2 i v (by simpa using e)
   have ek2:(kvs.map (·.1))[i]?=some k:=by
     rw [rel.keys,List.getElem?_map,ek]; rfl
   rw [hk,List.getElem?_map] at ek2
   cases es:ss[i]? with
   | none=>rw [es] at ek2; cases ek2
   | some y =>
     rw [es] at ek2
     cases (show some (Sum.inr y:Key)=some k from ek2)
     rcases bO (show jB (Sum.inr y) v=true from hk') with ⟨j,t,e1,e2⟩ | ⟨x',t,e1,e2⟩ | ⟨e1,e2⟩
     . cases e1
     . cases e1
       exact ⟨y,t,rfl,e2⟩
     . cases e1
 . have I1:Inv X pins σ H { s with heap:=h1,toks:=tk }:=I.kept k1
   have hl':ss'.length=ss.length:=hp2.length_eq
   exact ⟨.ref h1.objs.size,_,I1.laid (t':=tk) (o:=.lst (ss'.map V.str)) k2 (Nat.le_refl _) ⟨by rw [List.length_map]; omega,out,n,Ub hS,ho⟩,rfl,q _ _ (I1.hok.fresh (Nat.le_refl _)) hp2 hs⟩
end
end L2
namespace L2
open PySem PySem.Spec PyProof.Rows
def xX (h:Heap) (d:Addr) (es:Array DictEntry) (ep:Nat):Prop:=∃ o,h.get? d=some o/\o.ExactDict/\o.data=.dict es ep
section
variable {prog:Program} {w:World} {A:Around} {E:Value->Shared->Prop} {s:Shared}
theorem xX.typ {d:Addr} {es:Array DictEntry} {ep:Nat} (R:xX s.heap d es ep):s.TypeIs (.ref d) "dict":=let ⟨o,e,x,_⟩:=R; ⟨o,e,x.1⟩
theorem Ik {d:Addr} {es:Array DictEntry} {ep:Nat} {Q:Value->Shared->Prop} (nS:(d == sysModules)=false) (R:xX s.heap d es ep)
   (q:Q (.ref s.heap.objs.size) { s with heap:=s.heap.push { cls:=.type "dict_keyiterator",data:=.fields #[.ref d,.int 0 0,.int es.size 0,.int ep 0] } }):wpAny (model prog w) A (pyIter (.ref d)) Q E s:=by
 have T:=R.typ
 obtain ⟨o,e,_,dat⟩:=R
 refine wpAny_pyIter_slot T PySem.F.slot_dict_iter (wpAny_call_entry PySem.F.slot_dict_iter T PySem.F.entry_dict_iter ?_ (PySem.F.args_dict_iter_1 _))
 unfold Builtin.«dict.__iter__»
 refine wpAny_bind ?_
 unfold Builtin.Dict.dictSlotNone
 refine wpAny_bind (wpAny_notOrdered_dict T ?_)
 show wpAny _ _ (pure (Value.ref d)) _ _ s
 refine wpAny_pure ?_
 show wpAny _ _ (Builtin.Dict.showsAll d >>= _) _ _ s
 unfold Builtin.Dict.showsAll
 rw [if_neg (by rw [nS]; exact Bool.false_ne_true)]
 refine wpAny_bind (wpAny_pure (wpAny_bind (wpAny_dictEntries e dat (wpAny_bind (wpAny_dictEpoch e dat ?_)))))
 refine wpAny_bind (wpAny_newObj_type (wpAny_pure ⟨_,rfl,"dict_keyiterator",_,⟨_,Heap.get?_push_size _ rfl,rfl⟩,PySem.F.slot_dict_keyiterator_next.lookup,?_⟩))
 simpa [rawInt] using q
theorem Il {it d:Addr} {i ep:Nat} {es:Array DictEntry} {Q:Option Value->Shared->Prop} (K:s.heap.IsKeyIter it d i es.size ep) (R:xX s.heap d es ep) (lt:i<es.size)
   (q:∀ h',h'.IsKeyIter it d (i+1) es.size ep->Heap.SameBut it s.heap h'->Q (some es[i].key) { s with heap:=h' }):wpAny (model prog w) A (pyNext (.ref it)) Q E s:=by
 obtain ⟨o,e,c,dt⟩:=id K
 obtain ⟨od,e2,_,dd⟩:=R
 unfold pyNext
 refine wpAny_bind (wpAny_attempt (wpAny_callSpecial?_slot (name:=Str.ofString "__next__") K.typeIs PySem.F.slot_dict_keyiterator_next (wpAny_call_entry PySem.F.slot_dict_keyiterator_next K.typeIs PySem.F.entry_dict_keyiterator_next ?_ (PySem.F.args_dict_keyiterator_next_1 _))))
 refine wpAny_bind (wpAny_pure (wpAny_bind (wpAny_bind ?_)))
 first | refine wpAny_bind (wpAny_typeNameOfWhole_keyiter K.typeIs (wpAny_pure ?_)) | refine wpAny_bind (wpAny_typeNameOf_keyiter K.typeIs (wpAny_pure ?_))
 refine wpAny_bind (wpAny_fieldsOf e dt ?_)
 have own:Builtin.Dict_items.ownsTuple "dict_keyiterator" = false:=by decide
 simp only [own,Bool.false_eq_true,if_false]
 show wpAny _ _ (if (Value.ref d == Value.none)=true then _ else _) _ _ s
 rw [if_neg (show ¬ ((Value.ref d == Value.none)=true) from Bool.false_ne_true)]
 refine wpAny_bind (wpAny_pure (wpAny_bind (wpAny_dictEntries e2 dd ?_)))
 rw [if_neg (by simp)]
 refine wpAny_bind (wpAny_pure (wpAny_bind (wpAny_dictEpoch e2 dd ?_)))
 rw [if_neg (by simp)]
 refine wpAny_pure ?_
 simp only [show ¬ ((i:Int)<0) from by omega,if_false,Int.toNat_natCast,Array.getElem?_eq_getElem lt]
 refine wpAny_bind ?_
 first | refine wpAny_bind (wpAny_typeNameOfWhole_keyiter K.typeIs (wpAny_pure ?_)) | refine wpAny_bind (wpAny_typeNameOf_keyiter K.typeIs (wpAny_pure ?_))
 refine wpAny_bind (wpAny_isOneOf_keyiter K.typeIs ?_)
 show wpAny _ _ (setField (.ref it) 1 (rawInt ((i:Int)+1)) >>= _) _ _ s
 refine wpAny_bind (wpAny_setField e dt (by simp) ?_)
 have K':(s.heap.update it (Obj.mapFields (·.setIfInBounds 1 (rawInt ((i:Int)+1))))).IsKeyIter it d (i+1) es.size ep:=⟨_,Heap.get?_update_self _ e (Obj.isFreed_of_fields (Obj.data_mapFields dt _)),(Obj.cls_mapFields ..).trans c,by rw [Obj.data_mapFields dt]; simp [rawInt]⟩
 refine wpAny_bind (wpAny_holding (wpAny_bind (wpAny_isOneOf_keyiter (s:={ s with heap:=s.heap.update it (Obj.mapFields (·.setIfInBounds 1 (rawInt ((i:Int)+1)))) }) K'.typeIs ?_)))
 show wpAny _ _ (pure es[i].key) _ _ _
 exact wpAny_pure (wpAny_pure ⟨_,rfl,wpAny_pure (q _ K' (Heap.SameBut.update ..))⟩)
theorem Om {it d:Addr} {ep:Nat} {es:Array DictEntry} {Q:Option Value->Shared->Prop} (hh:A.handled=none) (K:s.heap.IsKeyIter it d es.size es.size ep) (R:xX s.heap d es ep) (q:∀ h',Heap.ExtBut it s.heap h'->Q none { s with heap:=h' }) :
   wpAny (model prog w) A (pyNext (.ref it)) Q E s:=by
 obtain ⟨o,e,c,dt⟩:=id K
 obtain ⟨od,e2,_,dd⟩:=R
 unfold pyNext
 refine wpAny_bind (wpAny_attempt (wpAny_callSpecial?_slot (name:=Str.ofString "__next__") K.typeIs PySem.F.slot_dict_keyiterator_next (wpAny_call_entry PySem.F.slot_dict_keyiterator_next K.typeIs PySem.F.entry_dict_keyiterator_next ?_ (PySem.F.args_dict_keyiterator_next_1 _))))
 refine wpAny_bind (wpAny_pure (wpAny_bind (wpAny_bind ?_)))
 first | refine wpAny_bind (wpAny_typeNameOfWhole_keyiter K.typeIs (wpAny_pure ?_)) | refine wpAny_bind (wpAny_typeNameOf_keyiter K.typeIs (wpAny_pure ?_))
 refine wpAny_bind (wpAny_fieldsOf e dt ?_)
 have own:Builtin.Dict_items.ownsTuple "dict_keyiterator" = false:=by decide
 simp only [own,Bool.false_eq_true,if_false]
 show wpAny _ _ (if (Value.ref d == Value.none)=true then _ else _) _ _ s
 rw [if_neg (show ¬ ((Value.ref d == Value.none)=true) from Bool.false_ne_true)]
 refine wpAny_bind (wpAny_pure (wpAny_bind (wpAny_dictEntries e2 dd ?_)))
 rw [if_neg (by simp)]
 refine wpAny_bind (wpAny_pure (wpAny_bind (wpAny_dictEpoch e2 dd ?_)))
 rw [if_neg (by simp)]
 refine wpAny_pure ?_
 simp only [show ¬ ((es.size:Int)<0) from by omega,if_false,Int.toNat_natCast,Array.getElem?_eq_none (Nat.le_refl es.size)]
 refine wpAny_bind ?_
 first | refine wpAny_bind (wpAny_typeNameOfWhole_keyiter K.typeIs (wpAny_pure ?_)) | refine wpAny_bind (wpAny_typeNameOf_keyiter K.typeIs (wpAny_pure ?_))
 show wpAny _ _ (setField (.ref it) 0 .none >>= _) _ _ s
 refine wpAny_bind (wpAny_setField e dt (by simp) ?_)
 show wpAny _ _ (newExc (.type "StopIteration") [] >>= _) _ _ _
 refine wpAny_bind ?_
 simp only [newExc,newTuple]
 refine wpAny_bind (wpAny_newObj_type ?_ (by size_fits))
 refine wpAny_bind (m:=firstArgMember _ _) (wpAny_of_eq (a:=Value.none) (by first | rfl | (simp only [firstArgMember]; rfl)) (wpAny_newObj_type ?_ (by size_fits)))
 simp only [raiseNew]
 refine wpAny_bind (wpAny_handled ?_)
 rw [show A.in1.handled=none from hh]
 refine (wpAny_bind (wpAny_pure (wpAny_throw ?_)))
 refine (wpAny_bind (wpAny_isInstance (T:="StopIteration") (b:=true) ⟨_,Heap.get?_push_size _ rfl,rfl⟩ isSubtype_stop ?_))
 exact wpAny_pure (q _ (((Heap.SameBut.update ..).extBut.push _).push _))
theorem Oo {d:Addr} {es:Array DictEntry} {ep:Nat} (nS:(d == sysModules)=false):PySem.W.KdlSrc prog w "dict" d d es.size (fun i v=>∃ e,es[i]?=some e/\v=e.key) (fun h=>xX h d es ep) where
 type:=fun _ R=>R.typ
 there:=fun _ R=>let ⟨_,e,_⟩:=R; ⟨Heap.lt_size e,Heap.lt_size e⟩
 keep:=fun _ _ R hk=>let ⟨o,e,r⟩:=R; ⟨o,hk d (.inl rfl) o e,r⟩
 notList:=by decide
 notTuple:=by decide
 hint:=fun _ _ _ _ R q=>PySem.W.kdl_hint_dict R.typ q
 iter:=fun A s hh R=>by
   have lt:d<s.heap.objs.size:=let ⟨_,e,_⟩:=R; Heap.lt_size e
   have ne:d≠s.heap.objs.size:=Nat.ne_of_lt lt
   refine ⟨_,fun i h=>h.IsKeyIter s.heap.objs.size d i es.size ep/\xX h d es ep,(fun _ _ q=>Ik nS R q),⟨fun b hb=>by simp at hb; simp [hb],fun i h h' st hk=>?_,fun i s' Q E hi st q=>?_,fun s' Q E st q=>?_,fun i s' Q E st q=>wpAny_pyIter_keyiter st.1 q⟩,⟨⟨_,Heap.get?_push_size _ rfl,rfl,rfl⟩,let ⟨o,e,r⟩:=R; ⟨o,Heap.get?_push_of_some _ e,r⟩⟩⟩
   . obtain ⟨⟨o,e,r⟩,⟨o2,e2,r2⟩⟩:=st
     exact ⟨⟨o,hk _ (by simp) o e,r⟩,⟨o2,hk d (by simp) o2 e2,r2⟩⟩
   . refine Il st.1 st.2 hi fun h' K' sb=>?_
     exact q _ h' s'.toks ⟨es[i],by simp [hi],rfl⟩ ⟨K',let ⟨o,e,r⟩:=st.2; ⟨o,sb.extBut d o ne e,r⟩⟩ fun b o hb e=>sb.extBut b o (fun z=>hb (by simp [z])) e
   . exact Om hh st.1 st.2 fun h' he=>q h' s'.toks fun b o hb e=>he b o (fun z=>hb (by simp [z])) e
end
end L2
namespace L2
open PySem PySem.Spec PyProof.Rows PySem.W
def cV {α:Type} (n:Nat) (lt:Nat->Nat->Bool):KasT α->Option α
 | .ret a=>some a
 | .ask i j k=>if i<n/\j<n then cV n lt (k (lt i j)) else none
theorem vA {α:Type} {n:Nat} {lt:Nat->Nat->Bool} {ask:Nat->Nat->(Bool->Shared->Prop)->Shared->Prop} {s:Shared} (ha:∀ i j C,i<n->j<n->C (lt i j) s->ask i j C s):∀ (t:KasT α) (a:α) (Q:α->Shared->Prop),cV n lt t=some a->Q a s->t.kasWp ask Q s
 | .ret b,a,Q,h,q=>by
   cases (show some b=some a from h)
   exact q
 | .ask i j k,a,Q,h,q=>by
   have h':(if i<n/\j<n then cV n lt (k (lt i j)) else none)=some a:=h
   by_cases c:i<n/\j<n
   . rw [if_pos c] at h'
     exact ha i j _ c.1 c.2 (vA ha (k (lt i j)) a Q h' q)
   . rw [if_neg c] at h'; cases h'
theorem Cz {α:Type} {n:Nat} {lt lt':Nat->Nat->Bool} (h:∀ i j,i<n->j<n->lt i j=lt' i j):∀ t:KasT α,cV n lt t=cV n lt' t
 | .ret _=>rfl
 | .ask i j k=>by
   show (if i<n/\j<n then cV n lt (k (lt i j)) else none)=if i<n/\j<n then cV n lt' (k (lt' i j)) else none
   by_cases c:i<n/\j<n
   . rw [if_pos c,if_pos c,h i j c.1 c.2]; exact Cz h _
   . rw [if_neg c,if_neg c]
def rk (r:List Nat) (i j:Nat):Bool:=decide (r.getD i 0<r.getD j 0)
def Fg (n:Nat) (r:List Nat):Bool:=match cV n (rk r) (kas_sort n) with
 | some p=>(p.toList.map fun i=>r.getD i 0) == List.range n && p.toList.all fun i=>decide (i<n)
 | none=>false
def Fi (x:Nat):List Nat->List (List Nat)
 | []=>[[x]]
 | y :: l=>(x :: y :: l) :: (Fi x l).map (y :: ·)
def perms:List Nat->List (List Nat)
 | []=>[[]]
 | x :: l=>(perms l).flatMap (Fi x)
theorem vB (x:Nat):∀ (a b:List Nat),a++x :: b∈Fi x (a++b)
 | [],[]=>List.mem_cons_self
 | [],_ :: _=>List.mem_cons_self
 | y :: a,b=>List.mem_cons_of_mem _ (List.mem_map.mpr ⟨_,vB x a b,rfl⟩)
theorem yQ:∀ (l l':List Nat),l'.Perm l->l'∈perms l
 | [],l',h=>by rw [List.Perm.eq_nil h]; exact List.mem_cons_self
 | x :: l,l',h=>by
   obtain ⟨a,b,rfl⟩:=List.append_of_mem (h.mem_iff.mpr List.mem_cons_self)
   have h2:(a++b).Perm l:=(List.perm_middle.symm.trans h).cons_inv
   exact List.mem_flatMap.mpr ⟨a++b,yQ l _ h2,vB x a b⟩
theorem Ye:((List.range 7).all fun n=>n<2 || (perms (List.range n)).all (Fg n))=true:=by decide +kernel
theorem Oq {n:Nat} {r:List Nat} (h2:2<=n) (h6:n<=6) (hr:r.Perm (List.range n)):Fg n r=true:=by
 have h:=List.all_eq_true.mp Ye n (List.mem_range.mpr (by omega))
 rw [Bool.or_eq_true] at h
 rcases h with h | h
 . have:=of_decide_eq_true h; omega
 . exact List.all_eq_true.mp h r (yQ _ _ hr)
structure Strict {κ:Type} (lt:κ->κ->Bool):Prop where
 Im:∀ a,lt a a=false
 trans:∀ a b c,lt a b=true->lt b c=true->lt a c=true
 tot:∀ a b,a≠b->lt a b=true∨lt b a=true
section
variable {κ:Type} {lt:κ->κ->Bool} (S:Strict lt)
include S
def rankOf (lt:κ->κ->Bool) (ks:List κ) (k:κ):Nat:=ks.countP fun k'=>lt k' k
omit S in
theorem yR {p q:κ->Bool} {ks:List κ} (h:∀ x∈ks,p x=true->q x=true) {z:κ} (hz:z∈ks) (h1:p z=false) (h2:q z=true):ks.countP p<ks.countP q:=by
 induction ks with
 | nil=>cases hz
 | cons x l ih =>
   have hl:l.countP p<=l.countP q:=List.countP_mono_left fun y hy=>h y (List.mem_cons_of_mem _ hy)
   rcases List.mem_cons.mp hz with e | e
   . subst e
     rw [List.countP_cons,List.countP_cons,h1,h2]
     simp; omega
   . have hlt:=ih (fun y hy=>h y (List.mem_cons_of_mem _ hy)) e
     rw [List.countP_cons,List.countP_cons]
     cases hp:p x with
     | false=>simp; omega
     | true=>rw [h x List.mem_cons_self hp]; simp; omega
theorem uK {ks:List κ} {a b:κ} (ha:a∈ks) (h:lt a b=true):rankOf lt ks a<rankOf lt ks b :=
 yR (fun x _ hx=>S.trans _ _ _ hx h) ha (S.Im a) h
theorem CG {ks:List κ} {a b:κ} (ha:a∈ks) (hb:b∈ks):decide (rankOf lt ks a<rankOf lt ks b)=lt a b:=by
 cases h:lt a b with
 | true=>exact decide_eq_true (uK S ha h)
 | false =>
   refine decide_eq_false fun z=>?_
   rcases Classical.em (a=b) with e | e
   . subst e; omega
   . rcases S.tot a b e with q | q
     . rw [h] at q; cases q
     . have:=uK S hb q; omega
theorem Fj {ks:List κ} {a:κ} (ha:a∈ks):rankOf lt ks a<ks.length:=by
 have h:=yR (p:=fun k'=>lt k' a) (q:=fun _=>true) (ks:=ks) (fun _ _ _=>rfl) ha (S.Im a) rfl
 rw [List.countP_true] at h
 exact h
theorem Fl {ks:List κ} (hn:ks.Nodup):(ks.map (rankOf lt ks)).Perm (List.range ks.length):=by
 have nd:(ks.map (rankOf lt ks)).Nodup:=by
   rw [List.nodup_iff_pairwise_ne,List.pairwise_map]
   refine List.Pairwise.imp_of_mem (fun {a b} ha hb h=>?_) (List.nodup_iff_pairwise_ne.mp hn)
   intro z
   rcases S.tot a b h with q | q
   . have:=uK S ha q; omega
   . have:=uK S hb q; omega
 have sub:(ks.map (rankOf lt ks)) ⊆ List.range ks.length:=fun x hx=>by
   obtain ⟨k,hk,rfl⟩:=List.mem_map.mp hx
   exact List.mem_range.mpr (Fj S hk)
 rw [List.perm_ext_iff_of_nodup nd List.nodup_range]
 intro x
 constructor
 . exact fun h=>sub h
 . intro h
   apply Classical.byContradiction
   intro hx
   have h1:(x :: ks.map (rankOf lt ks)).Nodup:=List.nodup_cons.mpr ⟨hx,nd⟩
   have h2:(x :: ks.map (rankOf lt ks)) ⊆ List.range ks.length:=fun y hy=>by
     rcases List.mem_cons.mp hy with e | e
     . rw [e]; exact h
     . exact sub e
   have:=h1.length_le_of_subset h2
   rw [List.length_cons,List.length_map,List.length_range] at this
   omega
theorem Ot {ks:List κ} (hn:ks.Nodup) (h2:2<=ks.length) (h6:ks.length<=6) (d:κ) :
   ∃ p:Array Nat,cV ks.length (fun i j=>lt (ks.getD i d) (ks.getD j d)) (kas_sort ks.length)=some p/\(p.toList.map fun i=>ks.getD i d).Perm ks/\(p.toList.map fun i=>ks.getD i d).Pairwise (fun a b=>lt a b=true)/\∀ i∈p.toList,i<ks.length:=by
 have hp:=Fl S hn
 have hc:=Oq h2 h6 hp
 have at':∀ i,i<ks.length->(ks.map (rankOf lt ks)).getD i 0=rankOf lt ks (ks.getD i d):=fun i hi=>by
   simp [List.getD,List.getElem?_map,List.getElem?_eq_getElem hi]
 have mem:∀ i,i<ks.length->ks.getD i d∈ks:=fun i hi=>by
   simp only [List.getD,List.getElem?_eq_getElem hi,Option.getD_some]
   exact List.getElem_mem hi
 have e:cV ks.length (fun i j=>lt (ks.getD i d) (ks.getD j d)) (kas_sort ks.length)=cV ks.length (rk (ks.map (rankOf lt ks))) (kas_sort ks.length):=Cz (fun i j hi hj=>by
   unfold rk
   rw [at' i hi,at' j hj,CG S (mem i hi) (mem j hj)]) _
 unfold Fg at hc
 rw [<- e] at hc
 cases hr:cV ks.length (fun i j=>lt (ks.getD i d) (ks.getD j d)) (kas_sort ks.length) with
 | none=>rw [hr] at hc; cases hc
 | some p =>
   rw [hr] at hc
   have hc':=Bool.and_eq_true_iff.mp hc
   have h1:(p.toList.map fun i=>(ks.map (rankOf lt ks)).getD i 0)=List.range ks.length:=by simpa using hc'.1
   have hb:∀ i∈p.toList,i<ks.length:=fun i hi=>of_decide_eq_true (List.all_eq_true.mp hc'.2 i hi)
   have h1':(p.toList.map fun i=>rankOf lt ks (ks.getD i d))=List.range ks.length:=by
     rw [<- h1]
     exact List.map_congr_left fun i hi=>(at' i (hb i hi)).symm
   have pw:(p.toList.map fun i=>ks.getD i d).Pairwise (fun a b=>lt a b=true):=by
     have h3:(p.toList.map fun i=>rankOf lt ks (ks.getD i d)).Pairwise (·<·):=by rw [h1']; exact List.pairwise_lt_range
     rw [List.pairwise_map] at h3 ⊢
     refine List.Pairwise.imp_of_mem (fun {a b} ha hb' h=>?_) h3
     rw [<- CG S (mem a (hb a ha)) (mem b (hb b hb'))]
     exact decide_eq_true h
   refine ⟨p,rfl,?_,pw,hb⟩
   have nd:(p.toList.map fun i=>ks.getD i d).Nodup:=by
     rw [List.nodup_iff_pairwise_ne]
     refine pw.imp fun {a b} h z=>?_
     subst z
     rw [S.Im] at h; cases h
   rw [List.perm_ext_iff_of_nodup nd hn]
   have sub:(p.toList.map fun i=>ks.getD i d) ⊆ ks:=fun x hx=>by
     obtain ⟨i,hi,rfl⟩:=List.mem_map.mp hx
     exact mem i (hb i hi)
   have len:(p.toList.map fun i=>ks.getD i d).length=ks.length:=by
     have:=congrArg List.length h1'
     rw [List.length_map,List.length_range] at this
     rw [List.length_map]; exact this
   intro x
   constructor
   . exact fun h=>sub h
   . intro h
     apply Classical.byContradiction
     intro hx
     have q1:(x :: p.toList.map fun i=>ks.getD i d).Nodup:=List.nodup_cons.mpr ⟨hx,nd⟩
     have q2:(x :: p.toList.map fun i=>ks.getD i d) ⊆ ks:=fun y hy=>by
       rcases List.mem_cons.mp hy with e | e
       . rw [e]; exact h
       . exact sub e
     have:=q1.length_le_of_subset q2
     rw [List.length_cons,len] at this
     omega
end
end L2
namespace L2
open PySem PySem.Spec PyProof.Rows PySem.W
def slt (a b:Str):Bool:=decide (a.cps.toList<b.cps.toList)
theorem Uc {a b:Str} (h:a.cps.toList=b.cps.toList):a=b:=by
 cases a; cases b
 congr 1
 exact Array.toList_inj.mp h
theorem jG:Strict slt where
 Im:=fun a=>decide_eq_false (List.lt_irrefl _)
 trans:=fun a b c h1 h2=>decide_eq_true (List.lt_trans (of_decide_eq_true h1) (of_decide_eq_true h2))
 tot:=fun a b h=>by
   rcases Classical.em (a.cps.toList<b.cps.toList) with q | q
   . exact .inl (decide_eq_true q)
   . rcases Classical.em (b.cps.toList<a.cps.toList) with q2 | q2
     . exact .inr (decide_eq_true q2)
     . exact absurd (Uc (List.le_antisymm q2 q)) h
def CJ (a b:Str × Str):Bool:=if a.1=b.1 then (if a.2=b.2 then false else slt a.2 b.2) else slt a.1 b.1
theorem lU:Strict CJ where
 Im:=fun a=>by unfold CJ; simp
 trans:=fun a b c h1 h2=>by
   unfold CJ at h1 h2 ⊢
   have T:=jG.trans
   have R:=jG.Im
   by_cases e1:a.1=b.1
   . rw [if_pos e1] at h1
     by_cases e2:b.1=c.1
     . rw [if_pos e2] at h2
       rw [if_pos (e1.trans e2)]
       by_cases f1:a.2=b.2
       . rw [if_pos f1] at h1; cases h1
       . rw [if_neg f1] at h1
         by_cases f2:b.2=c.2
         . rw [if_pos f2] at h2; cases h2
         . rw [if_neg f2] at h2
           have h3:=T _ _ _ h1 h2
           rw [if_neg (fun z=>by rw [z,R] at h3; cases h3)]
           exact h3
     . rw [if_neg e2] at h2
       rw [if_neg (fun z=>e2 (e1.symm.trans z)),e1]
       exact h2
   . rw [if_neg e1] at h1
     by_cases e2:b.1=c.1
     . rw [if_neg (fun z=>e1 (z.trans e2.symm)),<- e2]
       exact h1
     . rw [if_neg e2] at h2
       have h3:=T _ _ _ h1 h2
       rw [if_neg (fun z=>by rw [z,R] at h3; cases h3)]
       exact h3
 tot:=fun a b h=>by
   unfold CJ
   by_cases e:a.1=b.1
   . have f:a.2≠b.2:=fun z=>h (Prod.ext e z)
     rw [if_pos e,if_neg f,if_pos e.symm,if_neg (Ne.symm f)]
     exact jG.tot _ _ f
   . rw [if_neg e,if_neg (Ne.symm e)]
     exact jG.tot _ _ e
def vC (h:Heap) (a:Addr) (v:Value) (k:Str × Str):Prop:=∃ b o m t u,v=.ref b/\b≠a/\h.get? b=some o/\o.cls=.type "tuple"/\o.data=.seq #[.str k.1 t,.str k.2 u] m
inductive eN (h:Heap) (a:Addr):List Value->List (Str × Str)->Prop
 | nil:eN h a [] []
 | cons {v:Value} {vs:List Value} {k:Str × Str} {ks:List (Str × Str)}:vC h a v k->eN h a vs ks->eN h a (v :: vs) (k :: ks)
theorem eN.len {h:Heap} {a:Addr} {vs:List Value} {ks:List (Str × Str)} (p:eN h a vs ks):vs.length=ks.length:=by
 induction p with
 | nil=>rfl
 | cons _ _ ih=>rw [List.length_cons,List.length_cons,ih]
theorem eN.get {h:Heap} {a:Addr} {vs:List Value} {ks:List (Str × Str)} (p:eN h a vs ks):∀ i,i<ks.length->vC h a (vs.getD i Value.none) (ks.getD i (default,default)):=by
 induction p with
 | nil=>intro i hi; cases hi
 | cons q _ ih =>
   intro i hi
   cases i with
   | zero=>exact q
   | succ i=>exact ih i (Nat.lt_of_succ_lt_succ hi)
theorem eN.keep {h h':Heap} {a:Addr} {vs:List Value} {ks:List (Str × Str)} (p:eN h a vs ks) (k:∀ b o,b≠a->h.get? b=some o->h'.get? b=some o):eN h' a vs ks:=by
 induction p with
 | nil=>exact .nil
 | cons q _ ih =>
   obtain ⟨b,o,m,t,u,e,n,g,r⟩:=q
   exact .cons ⟨b,o,m,t,u,e,n,k b o n g,r⟩ ih
section
variable {prog:Program} {w:World} {A:Around} {E:Value->Shared->Prop} {s:Shared}
theorem Ud {a:Addr} {v v':Value} {k k':Str × Str} {Q:Bool->Shared->Prop} (p:vC s.heap a v k) (p':vC s.heap a v' k') (q:Q (CJ k k') s):wpAny (model prog w) A (keyLt' (tuples' true) v v') Q E s:=by
 obtain ⟨b,o,m,t,u,rfl,_,g,c,d⟩:=p
 obtain ⟨b',o',m',t',u',rfl,_,g',c',d'⟩:=p'
 refine kat_lt g d g' d' ?_
 show KatLex prog w A true (decide (2<2)) Q [(.str k.1 t,.str k'.1 t'),(.str k.2 u,.str k'.2 u')] 0 s
 unfold CJ at q
 refine kat_cons ((aK prog w).eqBool (iM _ _ _ _) (iM _ _ _ _) ?_)
 by_cases e:k.1=k'.1
 . rw [if_pos e] at q
   rw [show decide ((Sum.inr k.1:Key)=Sum.inr k'.1)=true from decide_eq_true (by rw [e])]
   refine kat_yes (kat_cons ((aK prog w).eqBool (iM _ _ _ _) (iM _ _ _ _) ?_))
   by_cases f:k.2=k'.2
   . rw [if_pos f] at q
     rw [show decide ((Sum.inr k.2:Key)=Sum.inr k'.2)=true from decide_eq_true (by rw [f])]
     exact kat_yes (kat_nil q)
   . rw [if_neg f] at q
     rw [show decide ((Sum.inr k.2:Key)=Sum.inr k'.2)=false from decide_eq_false (fun z=>f (Sum.inr.inj z))]
     refine kat_no ?_
     show wpAny _ A (oneLt' false _ _) Q _ s
     exact kat_one _ _ (PySem.P.lt_str q)
 . rw [if_neg e] at q
   rw [show decide ((Sum.inr k.1:Key)=Sum.inr k'.1)=false from decide_eq_false (fun z=>e (Sum.inr.inj z))]
   refine kat_no ?_
   show wpAny _ A (oneLt' true _ _) Q _ s
   exact oneLt_str q
theorem Ko {h:Heap} {a:Addr} {vs:List Value} {ks:List (Str × Str)} (p:eN h a vs ks):∃ fs,KatTups h vs fs/\fs.length=ks.length/\∀ v∈fs,∃ x t,v=Value.str x t:=by
 induction p with
 | nil=>exact ⟨[],.nil,rfl,fun v h=>by cases h⟩
 | cons q _ ih =>
   obtain ⟨fs,h1,h2,h3⟩:=ih
   obtain ⟨b,o,m,t,u,rfl,_,g,c,d⟩:=q
   refine ⟨.str _ t :: fs,.cons g c d (by rfl) h1,by rw [List.length_cons,List.length_cons,h2],fun v hv=>?_⟩
   rcases List.mem_cons.mp hv with e | e
   . exact ⟨_,_,e⟩
   . exact h3 v e
theorem Kp {a:Addr} {vs:List Value} {ks:List (Str × Str)} {n:Nat} {P:Fin->Shared->Prop} (ho:s.heap.get? a=some (seqObj "list" vs.toArray n)) (hp:eN s.heap a vs ks) (hn:ks.Nodup) (h6:ks.length<=6)
   (h:∀ (l:List Nat),(∀ i∈l,i<ks.length)->(l.map fun i=>ks.getD i (default,default)).Perm ks->(l.map fun i=>ks.getD i (default,default)).Pairwise (fun x y=>CJ x y=true)->P (.done (.ret .none)) { s with heap:=sortedHeap s.heap a vs (l.map fun i=>vs.getD i Value.none).toArray }) :
   wpAny (model prog w) A (Builtin.«list.sort» ⟨[.ref a],[]⟩) P E s:=by
 have mC:sizeLine=16777216:=sizeLine_eq
 have len:=hp.len
 rw [list_sort_plain]
 have la:a<s.heap.objs.size:=Heap.lt_size ho
 refine wpAny_bind (listItems_at ho rfl (wpAny_bind (listUpdate_at ho rfl ?_ (by rw [List.size_toArray]; omega) (Nat.zero_le _))))
 obtain ⟨e1,g1⟩:∃ e1,(s.heap.update a (Obj.mapSeq fun _=>#[])).get? a=some (seqObj "list" #[] e1):=⟨_,get?_update_seq ho (fun _=>#[])⟩
 refine wpAny_bind (seqEpoch_at g1 rfl (wpAny_bind (wpAny_newTuple ?_ (by simp; omega))))
 refine wpAny_bind (wpAny_newList ?_ (Nat.zero_le _))
 refine wpAny_holding ?_
 have g6:(((s.heap.update a (Obj.mapSeq fun _=>#[])).push (seqObj "tuple" vs.toArray 0)).push (seqObj "list" #[] 0)).get? a=some (seqObj "list" #[] e1):=Heap.get?_push_of_some _ (Heap.get?_push_of_some _ g1)
 have kk:∀ b o,b≠a->s.heap.get? b=some o->(((s.heap.update a (Obj.mapSeq fun _=>#[])).push (seqObj "tuple" vs.toArray 0)).push (seqObj "list" #[] 0)).get? b=some o:=fun b o nb e =>
   Heap.get?_push_of_some _ (Heap.get?_push_of_some _ (((Heap.SameBut.update s.heap a _).2 b nb).trans e))
 show wpAny (model prog w) A _ P E { s with heap:=((s.heap.update a (Obj.mapSeq fun _=>#[])).push (seqObj "tuple" vs.toArray 0)).push (seqObj "list" #[] 0) }
 dsimp only
 have sz:vs.toArray.size=vs.length:=by simp
 by_cases c2:vs.toArray.size<2
 . rw [if_pos c2,if_pos c2]
   refine wpAny_bind (wpAny_pure ?_)
   rw [StateT.run_pure]
   refine wpAny_bind (wpAny_pure ?_)
   dsimp only
   refine wpAny_bind (seqEpoch_at g6 rfl ?_)
   have em:((vs.toArray.zip vs.toArray).map (·.2))=vs.toArray:=by
     apply Array.toList_inj.mp
     rw [Array.toList_map,Array.toList_zip]
     exact List.map_snd_zip (Nat.le_refl _)
   refine wpAny_bind (listUpdate_at g6 rfl ?_ (Nat.zero_le _) (by show ((vs.toArray.zip vs.toArray).map (·.2)).size<=_; rw [em,sz]; omega))
   simp only [bne_self_eq_false,Bool.false_eq_true,if_false]
   refine wpAny_pure ?_
   show P _ { s with heap:=sortedHeap s.heap a vs ((vs.toArray.zip vs.toArray).map (·.2)) }
   rw [em]
   have all:∀ {α:Type} (xs:List α) (d:α),((List.range xs.length).map fun i=>xs.getD i d)=xs:=fun xs d=>by
     apply List.ext_getElem
     . simp
     . intro i h1 h2
       simp [List.getD,h2]
   have fin:=h (List.range ks.length) (fun i hi=>List.mem_range.mp hi) (by rw [all]) (by
     rw [all]
     match ks,len with
     | [],_=>exact List.Pairwise.nil
     | [_],_=>exact List.pairwise_singleton _ _
     | _ :: _ :: _,len=>rw [sz,len,List.length_cons,List.length_cons] at c2; omega)
   rw [<- len,all] at fin
   exact fin
 . rw [if_neg c2,if_neg c2]
   have p6:=hp.keep kk
   obtain ⟨fs,t1,t2,t3⟩:=Ko p6
   obtain ⟨p,r1,r2,r3,r4⟩:=Ot lU hn (by omega) h6 (default,default)
   refine wpAny_bind (kat_kind (T:=.type "str") t1 (by omega) (fun v hv=>?_) rfl ?_)
   . obtain ⟨x,t,rfl⟩:=t3 v hv
     exact .now
   . refine wpAny_bind (wpAny_mono (kat_run (ks:=vs) (vs:=vs) (κ:=tuples' true) (Q:=fun st' s'=>s'={ s with heap:=((s.heap.update a (Obj.mapSeq fun _=>#[])).push (seqObj "tuple" vs.toArray 0)).push (seqObj "list" #[] 0) }/\arrOf st'=p.map (kas_item (vs.toArray.zip vs.toArray))/\failedOf st'=none/\p.size=vs.length)
       (G:=fun p' s'=>p'=p/\s'={ s with heap:=((s.heap.update a (Obj.mapSeq fun _=>#[])).push (seqObj "tuple" vs.toArray 0)).push (seqObj "list" #[] 0) }) rfl (by omega) (by omega) (fun p' st' s' q1 q2 q3 ⟨q4,q5⟩=>by subst q4; exact ⟨q5,q2,q3,q1⟩)
       (vA (n:=ks.length) (lt:=fun i j=>CJ (ks.getD i (default,default)) (ks.getD j (default,default))) (fun i j C hi hj hC=>Ud (p6.get i hi) (p6.get j hj) hC) _ p _ (by rw [len]; exact r1) ⟨rfl,rfl⟩)) ?_ fun _ _ e=>e)
     rintro ⟨⟨⟩,st'⟩ s' ⟨rfl,har,hf,hsz⟩
     dsimp only
     have em:=kat_snds (vs:=vs) rfl har
     refine wpAny_bind (seqEpoch_at g6 rfl ?_)
     have psz:p.toList.length=vs.length:=by rw [Array.length_toList]; exact hsz
     refine wpAny_bind (listUpdate_at g6 rfl ?_ (Nat.zero_le _) (by rw [em,List.size_toArray,List.length_map,psz]; omega))
     rw [hf]
     simp only [bne_self_eq_false,Bool.false_eq_true,if_false]
     refine wpAny_pure ?_
     show P _ { s with heap:=sortedHeap s.heap a vs ((arrOf st').map (·.2)) }
     rw [em]
     exact h p.toList r4 r2 r3
theorem Fo {x:Value} {ks:List (Str × Str)} {T:List Value->Prop} {Q:Value->Shared->Prop} (hn:ks.Nodup) (h6:ks.length<=6)
   (col:∀ (R:List Value->Shared->Prop),(∀ (h':Heap) (tk:Nat) (vs:List Value),(∀ b o,s.heap.get? b=some o->h'.get? b=some o)->eN h' h'.objs.size vs ks->T vs->R vs { s with heap:=h',toks:=tk })->wpAny (model prog w) A.in1 (collect x) R E s)
   (h:∀ (h1 h':Heap) (tk:Nat) (vs:List Value) (l:List Nat) (n:Nat),(∀ b o,s.heap.get? b=some o->h1.get? b=some o)->(∀ b o,h1.get? b=some o->h'.get? b=some o)->T vs->vs.length=ks.length->h'.get? h1.objs.size=some (seqObj "list" (l.map fun i=>vs.getD i Value.none).toArray n) ->
     (∀ i∈l,i<ks.length)->(l.map fun i=>ks.getD i (default,default)).Perm ks->(l.map fun i=>ks.getD i (default,default)).Pairwise (fun x y=>CJ x y=true)->Q (.ref h1.objs.size) { s with heap:=h',toks:=tk }) :
   wpAny (model prog w) A (call (.builtin "sorted") [x]) Q E s:=by
 refine (Calls.call_function_entry kind_sorted plain_sorted entry_sorted (args_sorted1 _) ?_)
 unfold Builtin.«sorted»
 refine (wpAny_bind (m:=checkCount "sorted" 1 1 _) (wpAny_pure ?_))
 refine wpAny_bind (col _ fun h' tk vs kk hS hT=>?_)
 have hl:=hS.len
 have mC:sizeLine=16777216:=sizeLine_eq
 refine wpAny_bind (wpAny_newList ?_ (by omega))
 have g0:(h'.push (seqObj "list" vs.toArray 0)).get? h'.objs.size=some (seqObj "list" vs.toArray 0):=Heap.get?_push_size _ rfl
 refine wpAny_bind (wpAny_holding (wpAny_call_entry slot_list_sort (s:={ s with heap:=h'.push (seqObj "list" vs.toArray 0),toks:=tk }) ⟨_,g0,rfl⟩ entry_list_sort
   (Kp (s:={ s with heap:=h'.push (seqObj "list" vs.toArray 0),toks:=tk }) g0 (hS.keep fun b o _ e=>Heap.get?_push_of_some _ e) hn h6 fun l l1 l2 l3=>⟨_,rfl,?_⟩) (args_list_sort _)))
 obtain ⟨n,gn⟩:=sortedHeap_at (vs:=vs) (out:=(l.map fun i=>vs.getD i Value.none).toArray) g0
 refine wpAny_pure ⟨_,rfl,h h' _ tk vs l n kk (fun b o e1=>?_) hT hl gn l1 l2 l3⟩
 have lt:b<h'.objs.size:=Heap.lt_size e1
 show (sortedHeap (h'.push (seqObj "list" vs.toArray 0)) h'.objs.size vs _).get? b=some o
 rw [sortedHeap_old (Nat.ne_of_lt lt) (by rw [Heap.size_push]; exact Nat.lt_succ_of_lt lt)]
 exact Heap.get?_push_of_some _ e1
end
def kP (k:Str × Str):List Key:=[Sum.inr k.1,Sum.inr k.2]
theorem vD {a b:Str × Str} (h:kP a=kP b):a=b:=by
 unfold kP at h
 injection h with h1 h2
 injection h2 with h2 _
 exact Prod.ext (Sum.inr.inj h1) (Sum.inr.inj h2)
section
variable {X:Cx}
theorem fj {α β:Type} {F:α->β->Prop}:∀ {l₁:List α} {l₂:List β},Paired F l₁ l₂->∀ {i:Nat} {b:β},l₂[i]?=some b->∃ a,l₁[i]?=some a/\F a b
 | _,_,.nil,i,b,e=>by simp at e
 | _,_,.cons h r,i,b,e=>by
   cases i with
   | zero=>cases (show some _=some b from e); exact ⟨_,rfl,h⟩
   | succ i=>exact fj r (by simpa using e)
theorem mR {H:Hp}:∀ {kvs:List (List Key × V)} {xs:List (List Key × Addr × Value)},Paired (fun (p:List Key × V) (q:List Key × Addr × Value)=>p.1=q.1/\H q.2.1=some (.tup (p.1.map kV))/\RelV p.2 q.2.2) kvs xs->kvs.map (·.1)=xs.map (·.1)
 | _,_,.nil=>rfl
 | _,_,.cons h r=>by rw [List.map_cons,List.map_cons,h.1,mR r]
theorem CK {h:Heap} {a:Addr}:∀ {vs:List Value} {ks:List (Str × Str)},vs.length=ks.length->(∀ i,i<ks.length->vC h a (vs.getD i Value.none) (ks.getD i (default,default)))->eN h a vs ks
 | [],[],_,_=>.nil
 | v :: vs,k :: ks,hl,f=>.cons (f 0 (Nat.succ_pos _)) (CK (by simpa using hl) fun i hi=>f (i+1) (Nat.succ_lt_succ hi))
 | [],_ :: _,hl,_=>by simp at hl
 | _ :: _,[],hl,_=>by simp at hl
theorem Aj (hc:X.calm=true):dM X (.builtin "sorted") (fun xs H Q=>∃ (p:Addr) (kvs:List (List Key × V)) (ks:List (Str × Str)),xs=[.ref p]/\H p=some (.dT kvs)/\kvs.map (·.1)=ks.map kP/\ks.length<=6 /\
   ∀ (l:Addr) (as:List Addr) (ks':List (Str × Str)),H l=none->ks'.Perm ks->ks'.Pairwise (fun x y=>CJ x y=true)->as.length=ks'.length->(∀ (i:Nat) (a:Addr) (k:Str × Str),as[i]?=some a->ks'[i]?=some k->H a=some (.tup ((kP k).map kV)))->Q (.ref l) (upd H l (.lst (as.map V.ref)))):=by
 intro pins s σ H xs us Q I r h
 obtain ⟨p,kvs,ks,rfl,hp,hk,h6,q⟩:=h
 obtain ⟨u,rfl,ru⟩:=vals1 r
 cases ru
 obtain ⟨z,d,xs,rel,o,es,ep,g1,g2,g3,g4,g5⟩:=(show bQ X.prog X.w H s.heap p (.dT kvs) from I.hok p _ hp)
 have hkx:xs.map (·.1)=ks.map kP:=by
   rw [<- hk]
   exact (mR rel).symm
 have hn:ks.Nodup:=by
   rw [hkx] at g5
   rw [List.nodup_iff_pairwise_ne] at g5 ⊢
   rw [List.pairwise_map] at g5
   exact g5.imp fun {a b} h e=>h (by rw [e])
 have hxl:xs.length=ks.length:=by have:=congrArg List.length hkx; simpa using this
 have Yg:es.size=ks.length:=by rw [<- Array.length_toList,g4,List.length_map,hxl]
 have mC:sizeLine=16777216:=sizeLine_eq
 have fact:∀ i,i<ks.length->(es[i]?).map (·.key)=some (Value.ref (xs.map (·.2.1))[i]!)/\H (xs.map (·.2.1))[i]! = some (.tup ((kP (ks.getD i (default,default))).map kV)):=fun i hi=>by
   have ex:xs[i]?=some xs[i]:=List.getElem?_eq_getElem (by omega)
   obtain ⟨kv,Sv,e1,e2,_⟩:=fj rel ex
   have ea:(xs.map (·.2.1))[i]! = xs[i].2.1:=by
     rw [List.getElem!_eq_getElem?_getD,List.getElem?_map,ex]; rfl
   rw [ea]
   refine ⟨?_,?_⟩
   . rw [<- Array.getElem?_toList,g4,List.getElem?_map,ex]; rfl
   . rw [e1] at e2
     have e3:(xs.map (·.1))[i]?=some xs[i].1:=by rw [List.getElem?_map,ex]; rfl
     rw [hkx,List.getElem?_map,List.getElem?_eq_getElem hi] at e3
     have e4:kP ks[i]=xs[i].1:=Option.some.inj e3
     have e5:ks.getD i (default,default)=ks[i]:=by simp [List.getD,hi]
     rw [e5,e4]; exact e2
 refine Fo (T:=fun vs=>∀ i,i<ks.length->vs.getD i Value.none=.ref (xs.map (·.2.1))[i]!) hn h6 (fun R hR=>PySem.W.kdu_collect (A:=X.A.in1) (Oo (es:=es) (ep:=ep) d) (by simpa using I.ok.hd hc) ⟨o,g1,g2,g3⟩ (by omega) fun h' tk acc kk hacc=>?_) fun h1 h' tk vs l n k1 k2 hT hvl ho l1 l2 l3=>?_
 . have al:acc.toList.length=ks.length:=by rw [Array.length_toList]; exact hacc.1.trans Yg
   have at':∀ i,i<ks.length->acc.toList.getD i Value.none=.ref (xs.map (·.2.1))[i]!:=fun i hi=>by
     have e1:acc.toList[i]?=some acc.toList[i]:=List.getElem?_eq_getElem (by omega)
     obtain ⟨e,ee,ev⟩:=hacc.2 i acc.toList[i] (by rw [<- Array.getElem?_toList]; exact e1)
     have f:=(fact i hi).1
     rw [ee] at f
     have f':e.key=Value.ref (xs.map (·.2.1))[i]!:=Option.some.inj f
     simp only [List.getD,e1,Option.getD_some]
     rw [ev,f']
   refine hR h' tk acc.toList kk (CK al fun i hi=>?_) at'
   rw [at' i hi]
   obtain ⟨_,its,rv,ob,e1,e2,⟨m,e3⟩,_⟩:=(show bQ X.prog X.w H s.heap _ (.tup ((kP (ks.getD i (default,default))).map kV)) from I.hok _ _ (fact i hi).2)
   have g:=kk _ _ e1
   obtain ⟨v1,v2,rfl,r1,r2⟩:=vals2 (show Vals [V.str _,V.str _] its from rv)
   obtain ⟨t1,rfl⟩:=r1
   obtain ⟨t2,rfl⟩:=r2
   exact ⟨_,ob,m,t1,t2,rfl,Nat.ne_of_lt (Heap.lt_size g),g,e2,e3⟩
 . have I1:Inv X pins σ H { s with heap:=h1,toks:=tk }:=I.kept k1
   have ll:l.length=ks.length:=by have:=l2.length_eq; simpa using this
   have eo:(l.map fun i=>vs.getD i Value.none)=(l.map fun i=>(xs.map (·.2.1))[i]!).map Value.ref:=by
     rw [List.map_map]
     exact List.map_congr_left fun i hi=>hT i (l1 i hi)
   refine ⟨.ref h1.objs.size,_,I1.laid (t':=tk) (o:=.lst ((l.map fun i=>(xs.map (·.2.1))[i]!).map V.ref)) k2 (Nat.le_refl _) ⟨by rw [List.length_map,List.length_map]; omega,(l.map fun i=>(xs.map (·.2.1))[i]!).map Value.ref,n,?_,by rw [<- eo]; exact ho⟩,rfl,
     q _ _ _ (I1.hok.fresh (Nat.le_refl _)) l2 l3 (by simp) fun j a k ea ek=>?_⟩
   . generalize (l.map fun i=>(xs.map (·.2.1))[i]!)=ys
     induction ys with
     | nil=>exact .nil
     | cons y ys ih=>exact .cons rfl ih
   . rw [List.getElem?_map] at ea ek
     cases ej:l[j]? with
     | none=>rw [ej] at ea; cases ea
     | some i =>
       rw [ej] at ea ek
       cases (show some _=some a from ea)
       cases (show some _=some k from ek)
       exact (fact i (l1 i (List.mem_of_getElem? ej))).2
end
end L2
namespace L2
open PySem PySem.Spec PyProof.Rows
section
open PySem.SeqAt
open PySem.AutoSeq1 (wpAny_loadPart')
open PySem.MeetsSeq PySem.MeetsSeq2 PySem.MeetsSeq3
end
end L2
namespace L2
open PySem PySem.Spec PyProof.Rows
def bV (H H':Hp):Prop:=∀ b xs,H b=some (.tup xs)->H' b=some (.tup xs)
theorem bV.refl (H:Hp):bV H H:=fun _ _ h=>h
theorem bV.trans {H H1 H2:Hp} (a:bV H H1) (b:bV H1 H2):bV H H2:=fun c o h=>b c o (a c o h)
theorem Same.tups {H H':Hp} (s:Same H H'):bV H H':=fun b _ e=>s b _ e
theorem bV.new {H H1:Hp} {p:Addr} {o:HO} (s:bV H H1) (h:H1 p=none):bV H (upd H1 p o):=fun b u e=>by rw [aB (aH (s b u e) h)]; exact s b u e
theorem bV.put {H H1:Hp} {p:Addr} {o u:HO} (s:bV H H1) (h:H1 p=some u) (nt:∀ xs,u≠.tup xs):bV H (upd H1 p o):=fun b xs e=>by
 have e1:=s b xs e
 have ne:b≠p:=fun z=>by subst z; rw [h] at e1; exact nt xs (Option.some.inj e1)
 rw [aB ne]; exact e1
theorem dU.more {H1 H H':Hp} {D:Addr} {ys:List V} (G:dU H1 H D ys) (s:Same H H'):dU H1 H' D ys:=⟨s _ _ G.at',G.same.trans s⟩
theorem bw {α β:Type} {F:α->β->Prop}:∀ {l₁:List α} {l₂:List β},Paired F l₁ l₂->∀ {i:Nat} {a:α},l₁[i]?=some a->∃ b,l₂[i]?=some b/\F a b
 | _,_,.nil,i,b,e=>by simp at e
 | _,_,.cons h r,i,b,e=>by
   cases i with
   | zero=>cases (show some _=some b from e); exact ⟨_,rfl,h⟩
   | succ i=>exact bw r (by simpa using e)
theorem aA {α β:Type} {F G:α->β->Prop} (f:∀ a b,F a b->G a b):∀ {l₁:List α} {l₂:List β},Paired F l₁ l₂->Paired G l₁ l₂
 | _,_,.nil=>.nil
 | _,_,.cons h r=>.cons (f _ _ h) (aA f r)
theorem aY {α β:Type} {F:α->β->Prop}:∀ {l₁ m₁:List α} {l₂ m₂:List β},Paired F l₁ l₂->Paired F m₁ m₂->Paired F (l₁++m₁) (l₂++m₂)
 | _,_,_,_,.nil,q=>q
 | _,_,_,_,.cons h r,q=>.cons h (aY r q)
section
variable {g:BI->TG} {te:BI->TE} {σ0:St} {D:Addr} {End:Hp->Prop} {H1:Hp}
theorem Kq {K:PySem.W.Frag} {a:Addr} {xs:List V} (hD:H1 D=none) (hT:bW K H1 a xs) (hz:xs.length<=sizeLine)
   (turn:∀ (i:Nat) (x:V) (H':Hp),xs[i]?=some x->Same H1 H'->∀ b (R:VK),(∀ gK,Same H' gK->R (.bl true) gK)->g b x σ0 H' fun σ2 H2=>te b σ2 H2 R)
   (fin:∀ H',Same H1 H'->H' D=some (.lst ((List.replicate xs.length true).map V.bl))->End H') :
   ∃ W:Nat->Nat->Hp->Prop,(∃ m,W 0 m (upd H1 D (.lst [])))/\∀ b,jE (R7 K a) (g b) (NZ) (jP D (te b)) σ0 End W :=
 qw (xs:=xs) (fun i H'=>dU H1 H' D ((List.replicate i true).map V.bl)) (dU.start hD) (fun i H' _ G=>G.same.tup hT) (fun H' G=>fin H' G.same G.at') (fun i x H' hx hi G b =>
   turn i x H' hx G.same b _ fun gK s=>⟨_,(G.more s).at',by rw [List.length_map,List.length_replicate]; omega,nx hi (by
     show dU H1 _ D ((List.replicate (i+1) true).map V.bl)
     rw [List.replicate_succ',List.map_append]
     exact (G.more s).put hD _)⟩)
theorem comp_map {K:PySem.W.Frag} {a:Addr} {xs:List V} {ys:List V} (hD:H1 D=none) (hT:bW K H1 a xs) (hz:xs.length<=sizeLine) (hl:ys.length=xs.length)
   (turn:∀ (i:Nat) (x:V) (H':Hp),xs[i]?=some x->Same H1 H'->∀ b (R:VK),(∀ gK y,ys[i]?=some y->Same H' gK->R y gK)->g b x σ0 H' fun σ2 H2=>te b σ2 H2 R)
   (fin:∀ H',Same H1 H'->H' D=some (.lst ys)->End H') :
   ∃ W:Nat->Nat->Hp->Prop,(∃ m,W 0 m (upd H1 D (.lst [])))/\∀ b,jE (R7 K a) (g b) (NZ) (jP D (te b)) σ0 End W :=
 qw (xs:=xs) (fun i H'=>dU H1 H' D (ys.take i)) (dU.start hD) (fun i H' _ G=>G.same.tup hT) (fun H' G=>fin H' G.same (by have e:=G.at'; rw [<- hl,List.take_length] at e; exact e)) (fun i x H' hx hi G b =>
   turn i x H' hx G.same b _ fun gK y hy s=>⟨_,(G.more s).at',by rw [List.length_take]; omega,nx hi (by
     show dU H1 _ D (ys.take (i+1))
     rw [List.take_add_one,hy]
     exact (G.more s).put hD _)⟩)
end
section
variable {g:TG} {act:abk} {End:St->Hp->Prop}
end
end L2
namespace HT
open PySem PySem.Spec PyProof.Rows
section
variable {prog:Program} {w:World} {A:Around} {E:Value->Shared->Prop} {s:Shared}
theorem oK {t sl:Addr} {items:Array Value} {vl vu:Value} {lo hi:Option Int} {Q:Value->Shared->Prop} (ht:IsTup s.heap t items) (hs:s.heap.IsSliceOf sl vl vu .none) (pl:IsPart vl lo) (pu:IsPart vu hi)
   (hw:d7 items.size 0 lo=0/\d7 items.size items.size hi=items.size)
   (h:Q (.ref t) s):wpAny (model prog w) A (getItem (.ref t) (.ref sl)) Q E s:=by
 obtain ⟨os,hos,hcs,hds⟩:=id hs
 have hTs:s.TypeIs (.ref sl) "slice":=⟨os,hos,hcs⟩
 unfold getItem
 try with_reducible refine wpAny_holding ?_
 first | refine wpAny_bind (wpAny_pure ?_) | skip
 refine wpAny_bind (wpAny_sequenceKey ht.typeIs (by decide) ?_)
 refine wpAny_bind (wpAny_callSpecial?_slot (name:=Str.ofString "__getitem__") ht.typeIs PyProof.Rows.slot_tuple_getitem
   (wpAny_call_entry PyProof.Rows.slot_tuple_getitem ht.typeIs entry_tuple_getitem ?_ (args_tuple_getitem _ _)))
 show wpAny _ _ (Builtin.Tuple.tupleItemsOf (.ref t) >>= _) _ _ s
 refine wpAny_bind (tupleItemsOf_ ht ?_)
 refine wpAny_bind (wpAny_typeOf hTs ?_)
 rw [if_pos (by decide)]
 refine wpAny_bind (kj hs pl pu ?_)
 have hyes:((((d7 items.size 0 lo:Nat):Int) == 0 && (1:Int) == 1 && (d7 items.size items.size hi-d7 items.size 0 lo) == items.size)=true):=by
   rw [hw.1,hw.2]; simp
 show wpAny _ _ (if (((d7 items.size 0 lo:Nat):Int) == 0 && (1:Int) == 1 && (d7 items.size items.size hi-d7 items.size 0 lo) == items.size)=true then _ else _) _ _ s
 rw [if_pos hyes]
 unfold Builtin.Tuple.tupleIsExact
 refine wpAny_bind ?_
 refine wpAny_bind (wpAny_typeOf ht.typeIs ?_)
 refine wpAny_pure ?_
 rw [if_pos (by decide)]
 refine wpAny_bind (wpAny_rule ?_)
 exact wpAny_pure ⟨_,rfl,wpAny_pure h⟩
end
end HT
namespace L2
open PySem PySem.Spec PyProof.Rows
section
variable {X:Cx}
structure SlA (x:V) (lo hi:Option Int) (H:Hp) (Q:VK):Prop where
 h:∃ a xs,x=.ref a/\H a=some (.tup xs)/\∀ p H',H' p=some (.tup (xT xs lo hi))->Same H H'->Q (.ref p) H'
theorem Yh:Z4 X SlA:=by
 intro pins s σ H x v vl vu lo hi sl Q I rx hs pl pu ⟨h⟩
 obtain ⟨a,xs,rfl,ha,q⟩:=h
 by_cases hw:HT.d7 xs.length 0 lo=0/\HT.d7 xs.length xs.length hi=xs.length
 . cases rx
   obtain ⟨its,r,ht,hz⟩:=I.tuple (bW.of ha)
   have hlen:its.toArray.size=xs.length:=by rw [List.size_toArray]; exact r.length.symm
   refine ⟨"tuple",_,PyProof.Rows.slot_tuple_getitem.lookup,ht.typeIs,?_⟩
   refine HT.oK ht hs pl pu (by rw [hlen]; exact hw) ⟨.ref a,H,I,rfl,q a H ?_ (Same.refl H)⟩
   rw [ha]
   unfold xT
   rw [hw.1,hw.2,List.drop_zero,Nat.sub_zero,List.take_length]
 . exact Xv pins s σ H _ v vl vu lo hi sl Q I rx hs pl pu ⟨a,xs,rfl,bW.of ha,hw,fun p hp=>q p _ ao ((Same.refl H).upd hp)⟩
end
end L2
namespace HT
open PySem PySem.Spec PyProof.Rows
section
variable {prog:Program} {w:World} {A:Around} {E:Value->Shared->Prop} {s:Shared}
end
end HT
namespace L2
open PySem PySem.Spec PyProof.Rows
section
variable {X:Cx}
end
end L2
namespace HT
open PySem PySem.Spec PyProof.Rows
section
variable {prog:Program} {w:World} {A:Around} {E:Value->Shared->Prop} {s:Shared}
end
end HT
namespace L2
open PySem PySem.Spec PyProof.Rows
section
variable {X:Cx}
end
end L2
namespace L2
open PySem PySem.Spec PyProof.Rows
structure SE (X:Cx) (e:Expr) (t:TE):Prop where
 h:PE X e t
structure SA (X:Cx) (es:List Expr) (t:TA):Prop where
 h:PA X es t
structure SS (X:Cx) (s:Stmt) (t:TS):Prop where
 h:PS X s t
structure Yi (X:Cx) (s:List Stmt) (t:TS):Prop where
 h:JK X s t
structure ST (X:Cx) (e:Expr) (t:TT):Prop where
 h:PT X e t
structure SW (X:Cx) (e:Expr) (t:TT):Prop where
 h:PW X e t
structure RO (X:Cx) (f:Value->Value->Sem Value) (r:R2):Prop where
 h:gW X f r
section
variable {X:Cx} {e a b c o tg elt iter:Expr} {es rest':List Expr} {te ta tb to:TE} {t:TA} {pos p p2 pos' apos cpos spos:Pos} {st:Stmt} {rest:List Stmt} {ts u:TS} {tA Mw:TT} {lo hi:Option Expr} {tl th:TO} {x:Str} {id T:String} {name:Str}
 {scope iH:Scope} {own cap:List Str} {ix:List Nat} {wi:TI} {g:BI->TG} {tt:BI->TT} {tf:BI->TE} {ifs:List Expr} {i:Nat}
theorem dN:SA X [] JX:=⟨aq⟩
theorem fQ (ha:SE X e te) (hr:SA X es t) (hs:starEach (e :: es) X.env=(false,eval e X.env) :: starEach es X.env:=by rfl):SA X (e :: es) (sZ te t):=⟨aj ha.h hr.h hs⟩
theorem qV (i:Nat) (hN:X.N[i]?=some x:=by rfl) (hv:Vis X.env.scope x:=by first | exact Or.inl rfl | exact Or.inr (Or.inl rfl) | exact Or.inr (Or.inr rfl)) (hd:(x == ("__debug__" : Str))=false:=by decide)
   (hcd:(x == ("__classdict__" : Str))=false:=by decide):SE X (.Name x pos) (tV i):=⟨pV i hN hv hd hcd⟩
theorem fu {x1} (h:SA X es t):SE X (.Tuple es x1 pos) (aaO t):=⟨bK h.h⟩
theorem cO {i j}:SE X (.Constant (.int i) j pos) (tC (.int i)):=⟨aF⟩
theorem fB {x j}:SE X (.Constant (.str x) j pos) (tC (.str x)):=⟨jC⟩
theorem abn {b j}:SE X (.Constant (.bool b) j pos) (tC (.bl b)):=⟨jR⟩
theorem Ue {op:CmpOp} {r:R2} (ho:RO X (compareOp op) r) (ha:SE X a ta) (hb:SE X b tb) (hm:behindInMarks op b=false):SE X (.Compare a [op] [b] pos) (Z2 r ta tb):=⟨iG ho.h ha.h hb.h hm⟩
theorem qtC {op:CmpOp} {r:R2} (ho:RO X (compareOp op) r) (ha:SE X a ta) (hb:SE X b tb) (hm:behindInMarks op b=false):ST X (.Compare a [op] [b] pos) (tF (Z2 r ta tb)):=⟨qt ho.h ha.h hb.h hm⟩
theorem Yj (ha:ST X a tA):SW X (.BoolOp .Or [a] pos) tA:=⟨pw_or1 ha.h⟩
theorem afA (ha:ST X a tA) (hb:SW X (.BoolOp .Or (b :: rest') pos) Mw):ST X (.BoolOp .Or (a :: b :: rest') pos) (tOr tA Mw):=⟨uq ha.h hb.h⟩
theorem Ug:Yi X [] Wb:=⟨aW⟩
theorem qx {t:TS} (h1:SS X st t) (h2:Yi X rest u):Yi X (st :: rest) (Ni t u):=⟨au h1.h h2.h⟩
theorem Io {t:TS} (h1:SS X st t):Yi X [st] t:=⟨aG h1.h⟩
theorem Yk {i:Nat} (hN:X.N.Nodup) (hi:X.N[i]?=some x) (hx:Loc X.env.scope x) (he:SE X e te) (hs:swapsWith e (some (.Name x pos')) pos.line X.env=pure false:=by rfl) (hf:X.fn x=true∨X.env.scope.names.lookup x=some .local:=by first | exact .inl rfl | exact .inr rfl | assumption) :
   SS X (.Assign [.Name x pos'] e pos) (JM te (Ce i)):=⟨aR hN hi hx he.h hs hf⟩
theorem Ou (he:SE X e te):SS X (.Return (some e) pos) (aaC te):=⟨bh he.h⟩
theorem Uh (he:SE X e te) (hs:swapsWith e none pos.line X.env=pure false:=by rfl):SS X (.Expr e pos) (Wc te):=⟨fM he.h hs⟩
theorem abo {bs cs:List Stmt} {tc:TT} {t u:TS} (hc:ST X c tc) (ha:Yi X bs t) (hb:Yi X cs u):SS X (.If c bs cs pos) (Tf tc t u):=⟨cC hc.h ha.h hb.h⟩
end
end L2
namespace fW
open PySem L2
theorem Ip {c:TT} {t e u:TS} {D:Ends} {σ:St} {H:Hp} (N:St->Hp->Prop) (h:∀ U:St->Hp->Prop,(∀ σ' H',N σ' H'->U σ' H')->Tf c t e { D with nx:=U } σ H) (hN:∀ σ' H',N σ' H'->u D σ' H'):Ni (Tf c t e) u D σ H:=h (u D) hN
theorem gZ {te:TE} {g:TG} {u:TS} {D:Ends} {σ:St} {H:Hp} (h:∀ U:St->Hp->Prop,U=u D->te σ H fun x H1=>g x σ H1 U):Ni (JM te g) u D σ H:=h (u D) rfl
theorem cF {G:Prop} (h:∀ R:Prop,R=G->R):G:=h G rfl
def isW:V->Bool
 | .int _=>true
 | _=>false
def Thing (K:PySem.W.Frag) (H:Hp) (x:V):Prop:=(∃ T,iR K H x (.type T))/\∀ z,x=.str z->z.length<=sizeLine
def low (c:Nat):Bool:=97<=c && c<=122
def CN:V->Bool
 | .str z=>decide (1<=z.length) && decide (z.length<=8) && z.cps.toList.all low
 | _=>false
def lV (K:PySem.W.Frag):Sp:=fun vs H Q _=>∃ x,vs=[x]/\Thing K H x/\Q (.bl (isW x)) H
def vG (K:PySem.W.Frag):Sp:=fun vs H Q _=>∃ x,vs=[x]/\Thing K H x/\∀ H',Same H H'->Q (.bl (CN x)) H'
section
variable {P:Program} {w:World} {K:PySem.W.Frag} {mg:Str->Option Value} {base:Heap} {t8 t6 tR tL:Tok}
theorem Yl {H:Hp} {x:V} {T:String} (h:iR K H x (.type T)):(Ag T "int" && !Ag T "bool")=isW x:=by
 cases h <;> rfl
theorem Ym (c:Nat):(!decide ((⟨#[c]⟩:Str).cps.toList<("a" : Str).cps.toList))=decide (97<=c)/\(!decide (("z" : Str).cps.toList<(⟨#[c]⟩:Str).cps.toList))=decide (c<=122):=by
 have ea:("a" : Str).cps.toList=[97]:=by decide +kernel
 have ez:("z" : Str).cps.toList=[122]:=by decide +kernel
 have es:(⟨#[c]⟩:Str).cps.toList=[c]:=rfl
 rw [ea,ez,es]
 constructor
 . rw [Bool.eq_iff_iff]; simp [lt1]
 . rw [Bool.eq_iff_iff]; simp [lt1]
end
end fW
namespace fW
open PySem L2
structure Good (z:Str):Prop where
 lo:1<=z.length
 hi:z.length<=8
 all:∀ c∈z.cps.toList,low c=true
theorem Good.CN {z:Str} (g:Good z):fW.CN (.str z)=true:=by
 have h:z.cps.toList.all low=true:=List.all_eq_true.mpr g.all
 simp [fW.CN,g.lo,g.hi,h]
theorem Good.thing {K:PySem.W.Frag} {H:Hp} {z:Str} (g:Good z):Thing K H (.str z):=⟨⟨_,.str z⟩,fun y e=>by cases e; have:=g.hi; have mC:sizeLine=16777216:=sizeLine_eq; omega⟩
theorem qZ {K:PySem.W.Frag} {H:Hp} {i:Int}:Thing K H (.int i):=⟨⟨_,.int i⟩,fun y e=>by cases e⟩
abbrev Row:=Str × Int
structure aJ where
 name:Str
 low:Int
 high:Int
 aQ:Int
 runs:List (List Row)
abbrev Letter:=(Str × Str) × Int × Option Int
def gD:Option Int->V
 | none=>.non
 | some i=>.int i
def fG (H:Hp) (v:V) (r:Row):Prop:=∃ a,v=.ref a/\H a=some (.tup [.str r.1,.int r.2])
def mU (H:Hp) (v:V) (rs:List Row):Prop:=∃ a vs,v=.ref a/\H a=some (.tup vs)/\Paired (fG H) vs rs
def q9 (H:Hp) (v:V) (rs:List (List Row)):Prop:=∃ a vs,v=.ref a/\H a=some (.tup vs)/\Paired (mU H) vs rs
def fY (H:Hp) (v:V) (h:aJ):Prop:=∃ a b,v=.ref a/\H a=some (.tup [.str h.name,.int h.low,.int h.high,.int h.aQ,b])/\q9 H b h.runs
def kJ (H:Hp) (v:V) (hs:List aJ):Prop:=∃ a vs,v=.ref a/\H a=some (.tup vs)/\Paired (fY H) vs hs
def bx (H:Hp) (v:V) (l:Letter):Prop:=∃ a,v=.ref a/\H a=some (.tup [.str l.1.1,.str l.1.2,.int l.2.1,gD l.2.2])
def jo (H:Hp) (v:V) (ls:List Letter):Prop:=∃ a vs,v=.ref a/\H a=some (.tup vs)/\Paired (bx H) vs ls
def dD (H:Hp) (v:V) (hs:List aJ) (ls:List Letter):Prop:=∃ a x y,v=.ref a/\H a=some (.tup [x,y])/\kJ H x hs/\jo H y ls
section
variable {H H':Hp} {v:V} (s:bV H H')
include s
theorem fG.ts {r:Row} (h:fG H v r):fG H' v r:=let ⟨a,e,g⟩:=h; ⟨a,e,s _ _ g⟩
theorem mU.ts {r:List Row} (h:mU H v r):mU H' v r:=let ⟨a,vs,e,g,p⟩:=h; ⟨a,vs,e,s _ _ g,aA (fun _ _ q=>fG.ts s q) p⟩
theorem q9.ts {r:List (List Row)} (h:q9 H v r):q9 H' v r:=let ⟨a,vs,e,g,p⟩:=h; ⟨a,vs,e,s _ _ g,aA (fun _ _ q=>mU.ts s q) p⟩
theorem fY.ts {r:aJ} (h:fY H v r):fY H' v r:=let ⟨a,b,e,g,p⟩:=h; ⟨a,b,e,s _ _ g,q9.ts s p⟩
theorem kJ.ts {r:List aJ} (h:kJ H v r):kJ H' v r:=let ⟨a,vs,e,g,p⟩:=h; ⟨a,vs,e,s _ _ g,aA (fun _ _ q=>fY.ts s q) p⟩
theorem bx.ts {r:Letter} (h:bx H v r):bx H' v r:=let ⟨a,e,g⟩:=h; ⟨a,e,s _ _ g⟩
theorem jo.ts {r:List Letter} (h:jo H v r):jo H' v r:=let ⟨a,vs,e,g,p⟩:=h; ⟨a,vs,e,s _ _ g,aA (fun _ _ q=>bx.ts s q) p⟩
theorem dD.ts {hs:List aJ} {ls:List Letter} (h:dD H v hs ls):dD H' v hs ls:=let ⟨a,x,y,e,g,p,q⟩:=h; ⟨a,x,y,e,s _ _ g,kJ.ts s p,jo.ts s q⟩
end
structure Ak (rs:List Row):Prop where
 ne:rs≠[]
 few:rs.length<=25
 names:∀ r∈rs,Good r.1
 rise:(rs.map Prod.snd).Pairwise (·<·)
structure jq (h:aJ):Prop where
 name:Good h.name
 wide:h.low<=h.high
 aQ:0<=h.aQ
 few:h.runs.length<=25
 runs:∀ r∈h.runs,Ak r
def oR (h:aJ):List Row:=h.runs.flatten
def eE (h:aJ):List Str:=(oR h).map Prod.fst
def namesOf (hs:List aJ):List Str:=hs.flatMap eE
structure bL (hs:List aJ):Prop where
 lo:1<=hs.length
 hi:hs.length<=6
 all:∀ h∈hs,jq h
 names:(hs.map aJ.name).Nodup
 rows:(namesOf hs).Nodup
 few:(namesOf hs).length<=24
structure ig (hs:List aJ) (l:Letter):Prop where
 sent:Good l.1.1
 taken:Good l.1.2
 least:1<=l.2.1
 most:∀ m,l.2.2=some m->l.2.1<=m
 Fp:∃ h1∈hs,∃ h2∈hs,l.1.1∈eE h1/\l.1.2∈eE h2/\h1.name≠h2.name
structure gF (hs:List aJ) (ls:List Letter):Prop where
 few:ls.length<=24
 all:∀ l∈ls,ig hs l
 rise:(ls.map Prod.fst).Pairwise (fun a b=>CJ a b=true)
end fW
namespace fW
open PySem L2
inductive Da where
 | non | bl (b:Bool) | int (i:Int) | str (z:Str) | tup (xs:List Da) | oth
mutual
inductive eV (H:Hp):V->Da->Prop
 | non:eV H .non .non
 | bl (b:Bool):eV H (.bl b) (.bl b)
 | int (i:Int):eV H (.int i) (.int i)
 | str (z:Str) (h:z.length<=sizeLine):eV H (.str z) (.str z)
 | tup {a:Addr} {vs:List V} {xs:List Da}:H a=some (.tup vs)->vs.length<=25->jm H vs xs->eV H (.ref a) (.tup xs)
 | lst {a:Addr} {vs:List V}:H a=some (.lst vs)->eV H (.ref a) .oth
 | dic {a:Addr} {kvs:List (Key × V)}:H a=some (.dK kvs)->eV H (.ref a) .oth
inductive jm (H:Hp):List V->List Da->Prop
 | nil:jm H [] []
 | cons {v:V} {vs:List V} {x:Da} {xs:List Da}:eV H v x->jm H vs xs->jm H (v :: vs) (x :: xs)
end
mutual
theorem eV.same {H H':Hp} (s:Same H H'):∀ {v:V} {d:Da},eV H v d->eV H' v d
 | _,_,.non=>.non
 | _,_,.bl b=>.bl b
 | _,_,.int i=>.int i
 | _,_,.str z h=>.str z h
 | _,_,.tup h l r=>.tup (s _ _ h) l (jm.same s r)
 | _,_,.lst h=>.lst (s _ _ h)
 | _,_,.dic h=>.dic (s _ _ h)
theorem jm.same {H H':Hp} (s:Same H H'):∀ {v:List V} {d:List Da},jm H v d->jm H' v d
 | _,_,.nil=>.nil
 | _,_,.cons h r=>.cons (eV.same s h) (jm.same s r)
end
theorem jm.len {H:Hp}:∀ {vs:List V} {xs:List Da},jm H vs xs->vs.length=xs.length
 | _,_,.nil=>rfl
 | _,_,.cons _ r=>by rw [List.length_cons,List.length_cons,r.len]
theorem jm.inv {H:Hp} {vs:List V} {x:Da} {xs:List Da} (h:jm H vs (x :: xs)):∃ v r,vs=v :: r/\eV H v x/\jm H r xs:=by
 cases h with
 | cons h r=>exact ⟨_,_,rfl,h,r⟩
theorem jm.afB {H:Hp} {vs:List V} (h:jm H vs []):vs=[]:=by cases h; rfl
theorem jm.afC {H:Hp} {vs:List V} {a:Da} (h:jm H vs [a]):∃ v1,vs=[v1]/\eV H v1 a:=by
 obtain ⟨v,r,rfl,h1,h2⟩:=h.inv
 obtain rfl:=h2.afB
 exact ⟨_,rfl,h1⟩
theorem jm.two {H:Hp} {vs:List V} {a b:Da} (h:jm H vs [a,b]):∃ v1 v2,vs=[v1,v2]/\eV H v1 a/\eV H v2 b:=by
 obtain ⟨v,r,rfl,h1,h2⟩:=h.inv
 obtain ⟨w,rfl,h3⟩:=h2.afC
 exact ⟨_,_,rfl,h1,h3⟩
theorem jm.four {H:Hp} {vs:List V} {a b c d:Da} (h:jm H vs [a,b,c,d]):∃ v1 v2 v3 v4,vs=[v1,v2,v3,v4]/\eV H v1 a/\eV H v2 b/\eV H v3 c/\eV H v4 d:=by
 obtain ⟨v,r,rfl,h1,h2⟩:=h.inv
 obtain ⟨w,r,rfl,h3,h4⟩:=h2.inv
 obtain ⟨x,y,rfl,h5,h6⟩:=h4.two
 exact ⟨_,_,_,_,rfl,h1,h3,h5,h6⟩
theorem uL {n:Nat} {xs:List Da} (h:xs.length=n+1):∃ x r,xs=x :: r/\r.length=n:=by
 cases xs with
 | nil=>cases h
 | cons x r=>exact ⟨x,r,rfl,Nat.succ.inj h⟩
theorem len2 {xs:List Da} (h:xs.length=2):∃ a b,xs=[a,b]:=by
 obtain ⟨a,r1,rfl,h1⟩:=uL h
 obtain ⟨b,r2,rfl,h2⟩:=uL h1
 obtain rfl:=List.eq_nil_of_length_eq_zero h2
 exact ⟨a,b,rfl⟩
theorem afD {xs:List Da} (h:xs.length=4):∃ a b c d,xs=[a,b,c,d]:=by
 obtain ⟨a,r1,rfl,h1⟩:=uL h
 obtain ⟨b,r2,rfl,h2⟩:=uL h1
 obtain ⟨c,d,rfl⟩:=len2 h2
 exact ⟨a,b,c,d,rfl⟩
theorem eV.abp {H:Hp} {v:V} {xs:List Da} (h:eV H v (.tup xs)):∃ a vs,v=.ref a/\H a=some (.tup vs)/\vs.length<=25/\jm H vs xs:=by
 cases h with
 | tup h l r=>exact ⟨_,_,rfl,h,l,r⟩
def Yn:Da->Bool
 | .tup _=>true
 | _=>false
def gQ:Da->Bool
 | .int _=>true
 | _=>false
def rA:Da->Bool
 | .str z=>CN (.str z)
 | _=>false
def intD:Da->Int
 | .int i=>i
 | _=>0
def Fq (d:Da) (n:Nat):Bool:=match d with
 | .tup xs=>decide (xs.length=n)
 | _=>false
def afE:Da->Bool
 | .tup [a,b]=>rA a && gQ b
 | _=>false
def Al (n l h d:Da):Bool:=rA n && ((gQ l && (gQ h && gQ d)) && (decide (intD l<=intD h) && decide (0<=intD d)))
def Ir (l:Int):Da->Bool
 | .non=>true
 | .int i=>decide (l<=i)
 | _=>false
def jU:Da->Bool
 | .tup [s,t,l,m]=>rA s && (rA t && (gQ l && (decide (1<=intD l) && Ir (intD l) m)))
 | _=>false
theorem eV.kind {K:PySem.W.Frag} {H:Hp} {v:V} {d:Da} (h:eV H v d):Thing K H v/\(∃ T,iR K H v (.type T)/\PySem.W.kitOne K (.type T) (.type "tuple")=some (Yn d))/\isW v=gQ d/\CN v=rA d:=by
 cases h with
 | non=>exact ⟨⟨⟨_,.non⟩,fun z e=>by cases e⟩,⟨_,.non,(Ah (K:=K) (iR.non (H:=H))).2.2.2⟩,rfl,rfl⟩
 | bl b=>exact ⟨⟨⟨_,.bl b⟩,fun z e=>by cases e⟩,⟨_,.bl b,(Ah (K:=K) (iR.bl (H:=H) b)).2.2.2⟩,rfl,rfl⟩
 | int i=>exact ⟨⟨⟨_,.int i⟩,fun z e=>by cases e⟩,⟨_,.int i,(Ah (K:=K) (iR.int (H:=H) i)).2.2.2⟩,rfl,rfl⟩
 | str z hz=>exact ⟨⟨⟨_,.str z⟩,fun y e=>by cases e; exact hz⟩,⟨_,.str z,(Ah (K:=K) (iR.str (H:=H) z)).2.2.2⟩,rfl,rfl⟩
 | tup e l r=>exact ⟨⟨⟨_,.tup e⟩,fun z e=>by cases e⟩,⟨_,.tup e,(Ah (K:=K) (iR.tup e)).2.2.2⟩,rfl,rfl⟩
 | lst e=>exact ⟨⟨⟨_,.lst e⟩,fun z e=>by cases e⟩,⟨_,.lst e,(Ah (K:=K) (iR.lst e)).2.2.2⟩,rfl,rfl⟩
 | dic e=>exact ⟨⟨⟨_,.dK e⟩,fun z e=>by cases e⟩,⟨_,.dK e,(Ah (K:=K) (iR.dK e)).2.2.2⟩,rfl,rfl⟩
def spD (f:Da->Bool):Sp:=fun vs H Q _=>∃ (x:V) (d:Da),vs=[x]/\eV H x d/\∀ H',Same H H'->Q (.bl (f d)) H'
def uM:Sp:=fun vs H Q _=>∃ (x:V) (d:Da) (n:Nat),vs=[x,.int (n:Int)]/\eV H x d/\Q (.bl (Fq d n)) H
def Am:Sp:=fun vs H Q _=>∃ (x0 x1 x2 x3:V) (d0 d1 d2 d3:Da),vs=[x0,x1,x2,x3]/\eV H x0 d0/\eV H x1 d1/\eV H x2 d2/\eV H x3 d3/\∀ H',Same H H'->Q (.bl (Al d0 d1 d2 d3)) H'
theorem qy {K:PySem.W.Frag} {H H':Hp} {a:Addr} {xs:List V} (s:Same H H') (h:cT K H a xs):cT K H' a xs:=by
 rcases h with (h | ⟨o,h⟩) | h
 . exact .inl (.inl (s _ _ h))
 . exact .inl (.inr ⟨o,s _ _ h⟩)
 . exact .inr h
section
variable {P:Program} {w:World} {K:PySem.W.Frag} {mg:Str->Option Value} {base:Heap} {t8 t6 tR tL:Tok}
end
end fW
namespace fW
open PySem L2
section
variable {P:Program} {w:World} {K:PySem.W.Frag} {mg:Str->Option Value} {base:Heap} {t8 t6 tR tL:Tok}
end
end fW
namespace fW
open PySem L2
def vH:Sp:=fun vs H Q _=>∃ (a:Addr) (ss:List Str),vs=[.ref a]/\H a=some (.lst (ss.map V.str))/\ss.length<=3800/\∀ H',Same H H'->Q (.bl (decide ss.Nodup)) H'
theorem yS {ks:List Key}:∀ i,i<=ks.length->(cZ ks i).length=i->(ks.take i).Nodup
 | 0,_,_=>by rw [List.take_zero]; exact List.nodup_nil
 | i+1,hi,h=>by
   have hk:ks[i]?=some ks[i]:=List.getElem?_eq_getElem (by omega)
   have le:=uJ ks i
   rw [nJ hk] at h
   cases q:uI (cZ ks i) ks[i] with
   | true=>rw [q,if_pos rfl] at h; omega
   | false =>
     rw [q,if_neg Bool.false_ne_true,List.length_append] at h
     have h':(cZ ks i).length=i:=by simpa using h
     have ih:=yS i (by omega) h'
     have e:cZ ks i=ks.take i:=yU i (by omega) h'
     rw [List.take_add_one,hk]
     rw [List.nodup_append]
     refine ⟨ih,by simp,fun a ha b hb z=>?_⟩
     have hb':b=ks[i]:=by simpa using hb
     rw [hb'] at z
     rw [e] at q
     have:=Ii.mpr (show ks[i]∈ks.take i by rw [<- z]; exact ha)
     rw [q] at this; cases this
where yU:∀ i,i<=ks.length->(cZ ks i).length=i->cZ ks i=ks.take i
 | 0,_,_=>rfl
 | i+1,hi,h=>by
   have hk:ks[i]?=some ks[i]:=List.getElem?_eq_getElem (by omega)
   have le:=uJ ks i
   rw [nJ hk] at h ⊢
   cases q:uI (cZ ks i) ks[i] with
   | true=>rw [q,if_pos rfl] at h; omega
   | false =>
     rw [q,if_neg Bool.false_ne_true,List.length_append] at h
     rw [if_neg Bool.false_ne_true,yU i (by omega) (by simpa using h),List.take_add_one,hk]
     rfl
section
variable {P:Program} {w:World} {K:PySem.W.Frag} {mg:Str->Option Value} {base:Heap} {t8 t6 tR tL:Tok}
end
end fW
namespace fW
open PySem L2
def mV (h:aJ):List (Str × Str):=(oR h).map fun r=>(r.1,h.name)
def pairsOf (hs:List aJ):List (Str × Str):=hs.flatMap mV
theorem Ft (h:aJ):(mV h).map Prod.fst=eE h:=by unfold mV eE; rw [List.map_map]; rfl
theorem mW (hs:List aJ):(pairsOf hs).map Prod.fst=namesOf hs:=by
 unfold pairsOf namesOf
 rw [List.map_flatMap]
 congr 1
 funext h
 exact Ft h
def Iu (ps:List (Str × Str)) (n:Str):Option Str:=(ps.find? fun p=>decide (p.1=n)).map Prod.snd
section
variable {P:Program} {w:World} {K:PySem.W.Frag} {mg:Str->Option Value} {base:Heap} {t8 t6 tR tL:Tok}
end
end fW
namespace fW
open PySem L2
section
variable {P:Program} {w:World} {K:PySem.W.Frag} {mg:Str->Option Value} {base:Heap} {t8 t6 tR tL:Tok}
end
end fW
namespace fW
open PySem L2
open Builtin.Int in
theorem abq {X:Cx}:gW X (binaryOp .Mult) (MF IntMulOk fun i j=>.int (i * j)):=(opI fun _ _ _ _ _ _ _ hc q=>PyProof.Rows.mul_int q hc:gW X (binaryOp .Mult) (rI IntMulOk fun i j=>.int (i * j))).MF
def Ov (n:Int):Prop:=Builtin.Int.intBits n<=1048576
def Ao:Sp:=fun vs H Q _=>∃ c:Int,vs=[.int c]/\Builtin.Int.intBits c<=2000000/\∀ n:Int,0<=n->Q (.int n) H
def bM (H:Hp) (p:Addr):Prop:=∃ n:Int,H p=some (.lst [.int n])/\0<=n
def Aq (K:PySem.W.Frag):Sp:=fun vs H Q _=>∃ (a:Addr) (ns:List Int) (k:Int),vs=[.ref a,.int k]/\cT K H a (ns.map V.int)/\(∀ n∈ns,Ov n)/\ns.length<=63/\0<=k/\k<=1000/\∀ (p:Addr) (H':Hp),H p=none->bM H' p->Same H H'->Q (.ref p) H'
def mX:Sp:=fun vs H Q _=>∃ (p:Addr) (m:Int),vs=[.ref p,.int m]/\bM H p/\0<m/\m<1073741824/\∀ (d:Int) (H':Hp),0<=d->d<m->bM H' p->aZ p H H'->Q (.int d) H'
section
variable {P:Program} {w:World} {K:PySem.W.Frag} {mg:Str->Option Value} {base:Heap} {t8 t6 tR tL:Tok}
end
end fW
namespace fW
open PySem L2
def Ow:List Nat:=(List.range 26).map (97+·)
def Ox (t:Nat):List Nat:=Ow.drop t++Ow.take t
def qz (t sz pick k:Nat):List Nat :=
 if pick=0 then List.replicate (1+k % 8) ((Ox t).getD (k / 8) 0) else if pick=1 then (Ox t).getD (k % 26) 0 :: ((Ox t).drop 4).take sz else ((Ox t).drop 4).take sz++[(Ox t).getD (k % 26) 0]
def Iv (l:List (List Nat)):Bool:=decide l.Nodup && l.all fun s=>decide (1<=s.length) && decide (s.length<=8) && s.all low
def qL:List Nat:=[113,113,113,113,113,113,113,114]
def qS:Str:=⟨qL.toArray⟩
theorem Ar:((List.range 26).all fun t=>(List.range 8).all fun sz=>(List.range 3).all fun pick=>(List.range 12).all fun k=>!decide (qz t sz pick k=qL))=true:=by decide +kernel
theorem CP:((List.range 26).all fun t=>(List.range 8).all fun sz=>(List.range 3).all fun pick=>Iv ((List.range 12).map (qz t sz pick)))=true:=by decide +kernel
def nameS (t sz pick k:Nat):Str:=⟨(qz t sz pick k).toArray⟩
def dI (t sz pick:Nat):List Str:=(List.range 12).map (nameS t sz pick)
theorem Kr {t sz pick:Nat} (ht:t<26) (hz:sz<8) (hp:pick<3):(dI t sz pick).Nodup/\∀ s∈dI t sz pick,Good s:=by
 have h:=List.all_eq_true.mp (List.all_eq_true.mp (List.all_eq_true.mp CP t (List.mem_range.mpr ht)) sz (List.mem_range.mpr hz)) pick (List.mem_range.mpr hp)
 unfold Iv at h
 obtain ⟨h1,h2⟩:=Bool.and_eq_true_iff.mp h
 have h1':=of_decide_eq_true h1
 constructor
 . unfold dI
   rw [List.nodup_iff_pairwise_ne,List.pairwise_map] at h1' ⊢
   refine h1'.imp fun {a b} z e=>z ?_
   have:=congrArg (fun s:Str=>s.cps.toList) e
   simpa [nameS] using this
 . intro s hs
   obtain ⟨k,hk,rfl⟩:=List.mem_map.mp hs
   have h3:=List.all_eq_true.mp h2 (qz t sz pick k) (List.mem_map.mpr ⟨k,hk,rfl⟩)
   obtain ⟨h4,h5⟩:=Bool.and_eq_true_iff.mp h3
   obtain ⟨h6,h7⟩:=Bool.and_eq_true_iff.mp h4
   refine ⟨?_,?_,fun c hc=>List.all_eq_true.mp h5 c (by simpa [nameS] using hc)⟩
   . have:=of_decide_eq_true h6; simpa [nameS,Str.length] using this
   . have:=of_decide_eq_true h7; simpa [nameS,Str.length] using this
theorem Oz {t sz pick:Nat} (ht:t<26) (hz:sz<8) (hp:pick<3):∀ s∈dI t sz pick,s≠qS:=by
 intro s hs e
 obtain ⟨k,hk,rfl⟩:=List.mem_map.mp hs
 have h:=List.all_eq_true.mp (List.all_eq_true.mp (List.all_eq_true.mp (List.all_eq_true.mp Ar t (List.mem_range.mpr ht)) sz (List.mem_range.mpr hz)) pick (List.mem_range.mpr hp)) k hk
 have:=congrArg (fun s:Str=>s.cps.toList) e
 have e2:qz t sz pick k=qL:=by simpa [nameS,qS] using this
 rw [e2] at h
 exact absurd h (by decide)
def abc:Str:="abcdefghijklmnopqrstuvwxyz"
theorem Yo:abc.cps.toList=Ow:=by decide +kernel
theorem uN {t:Nat} (h:t<=26):(Ox t).length=26:=by
 unfold Ox
 rw [List.length_append,List.length_drop,List.length_take,show Ow.length=26 by decide]
 omega
theorem Av:abc.length=26:=by decide +kernel
theorem OD {t:Nat} (ht:t<=26):(PySem.Txt.slice abc (some (t:Int)) none++PySem.Txt.slice abc none (some (t:Int))).cps.toList=Ox t:=by
 rw [app_list,Oe,vp]
 unfold Od Ox
 rw [HT.nC,HT.Ck,Av,Yo,Nat.min_eq_left ht,List.take_of_length_le (by rw [List.length_drop,show Ow.length=26 by decide]; omega)]
theorem vI {l:List Nat} {k:Int} (h0:0<=k) (h1:k<l.length):yI l k=some (l.getD k.toNat 0):=by
 obtain ⟨n,rfl⟩:=Int.eq_ofNat_of_zero_le h0
 refine lN ?_
 have hn:n<l.length:=by omega
 rw [List.getElem?_eq_getElem hn]
 simp [List.getD,hn]
def Aw:Sp:=fun vs H Q _=>∃ (p:Addr),vs=[.ref p,.int 12]/\bM H p/\∀ (l:Addr) (ss:List Str) (H':Hp),H l=none->H' l=some (.lst (ss.map V.str))->ss.length=12->ss.Nodup->(∀ s∈ss,Good s)->(∀ s∈ss,s≠qS)->bM H' p->aZ p H H'->Q (.ref l) H'
section
variable {P:Program} {w:World} {K:PySem.W.Frag} {mg:Str->Option Value} {base:Heap} {t8 t6 tR tL:Tok}
end
end fW
namespace fW
open PySem L2
def Ks (r:Row):PyData:=.tuple [.str r.1,.int r.2]
def vJ (rs:List Row):PyData:=.list (rs.map Ks)
theorem Good.ok {z:Str} (g:Good z):PyData.strOk z=true:=by
 unfold PyData.strOk
 rw [Array.all_eq_true_iff_forall_mem]
 intro c hc
 have h:=g.all c (by simpa using hc)
 unfold low at h
 have h2:=of_decide_eq_true (Bool.and_eq_true_iff.mp h).2
 exact decide_eq_true (by omega)
theorem CQ:∀ {rs:List Row},(∀ r∈rs,Good r.1)->SeqAt.shaped (vJ rs)=true:=by
 intro rs h
 have h1:PyData.canLayAll0 (rs.map Ks)=true:=by
   induction rs with
   | nil=>rfl
   | cons r rs ih =>
     rw [List.map_cons]
     unfold PyData.canLayAll0
     rw [ih fun q hq=>h q (List.mem_cons_of_mem _ hq),Bool.and_true]
     unfold Ks PyData.canLay0 PyData.canLayAll0
     have z:=(h r List.mem_cons_self).ok
     simp [PyData.canLay0,PyData.canLayAll0,z]
 have h2:PyData.depthAll (rs.map Ks)<=1:=by
   clear h h1
   induction rs with
   | nil=>exact Nat.zero_le _
   | cons r rs ih =>
     rw [List.map_cons]
     unfold PyData.depthAll
     have e:PyData.depth (Ks r)=1:=by simp [Ks,PyData.depth,PyData.depthAll]
     rw [e]
     omega
 unfold SeqAt.shaped vJ
 rw [Bool.and_eq_true]
 refine ⟨?_,?_⟩
 . unfold PyData.canLay0; exact h1
 . unfold PyData.depth; exact decide_eq_true (by omega)
theorem Ui {K:PySem.W.Frag} {H:Hp} {a:Addr} {vs:List V} {rs:List Row} (ha:H a=some (.lst vs)) (p:Paired (fG H) vs rs):Dp K H (.ref a) (vJ rs):=by
 refine .lst (cT.of ha) ?_
 clear ha
 induction p with
 | nil=>exact .nil
 | cons h _ ih =>
   obtain ⟨b,rfl,hb⟩:=h
   exact .cons (.tup (bW.of hb) (.cons (.str _) (.cons (.int _) .nil))) ih
theorem OJ (rs:List Row):PyData.eqv (vJ rs) (.list [])=rs.isEmpty:=by
 cases rs with
 | nil=>simp [vJ,PyData.eqv,PyData.eqvAll]
 | cons r rs=>simp [vJ,PyData.eqv,PyData.eqvAll]
structure Wn (K:PySem.W.Frag) (x y:V) (H:Hp) (Q:VK):Prop where
 h:aa8 K x y H Q
theorem Fv {X:Cx} (hu:X.A.units+64<cLine):gW X (compareOp .NotEq) (Wn X.K):=fun pins s σ H x y v u Q I rx ry h=>N6 hu pins s σ H x y v u Q I rx ry h.h
theorem O1 {K:PySem.W.Frag} {H:Hp} {a l:Addr} {vs:List V} {rs:List Row} {Q:VK} (ha:H a=some (.lst vs)) (p:Paired (fG H) vs rs) (g:∀ r∈rs,Good r.1) (hl:H l=some (.lst [])) (q:Q (.bl (!rs.isEmpty)) H):Wn K (.ref a) (.ref l) H Q :=
 ⟨vJ rs,.list [],Ui ha p,.lst (cT.of hl) .nil,CQ g,rfl,by rw [OJ]; exact q⟩
theorem CT {α:Type} {xs:List α} {x:α}:yI (xs++[x]) (-1)=some x:=by
 unfold yI R9
 have e:(xs++[x]).length=xs.length+1:=by simp
 rw [e,if_neg (by decide),if_pos (by omega)]
 have e2:((-1:Int)+((xs.length+1:Nat):Int)).toNat=xs.length:=by omega
 rw [e2]
 simp
structure HS (H0:Hp) (p R D:Addr) (ss:List Str) (room:Int) (H:Hp) (vr:List V) (kvs:List (Key × V)) (runs:List (List Row)) (m:Nat):Prop where
 pack:bM H p
 same:aZ p H0 H
 hR:H R=some (.lst vr)
 pR:Paired (mU H) vr runs
 hD:H D=some (.dK kvs)
 keys:kvs.map (·.1)=(ss.take m).map Sum.inr
 vals:∀ n∈ss.take m,∃ i:Int,cj kvs (.inr n)=some (.int i)
 le:m<=ss.length
 rm:(m:Int)<=room∨m=0
 good:∀ r∈runs,Ak r
theorem aZ.tups {p:Addr} {H H':Hp} (hp:bM H p) (s:aZ p H H'):bV H H':=fun b xs e=>s b _ (fun z=>by obtain ⟨n,e',_⟩:=hp; rw [z,e'] at e; cases e) e
section
variable {H0 H H':Hp} {p R D:Addr} {ss:List Str} {room:Int} {vr:List V} {kvs:List (Key × V)} {runs:List (List Row)} {m:Nat}
theorem HS.step (h:HS H0 p R D ss room H vr kvs runs m) (nR:R≠p) (nD:D≠p) (pk:bM H' p) (s:aZ p H H'):HS H0 p R D ss room H' vr kvs runs m :=
 ⟨pk,h.same.trans s,s _ _ nR h.hR,aA (fun _ _ z=>z.ts (aZ.tups h.pack s)) h.pR,s _ _ nD h.hD,h.keys,h.vals,h.le,h.rm,h.good⟩
theorem bM.new {q:Addr} {o:HO} (h:bM H p) (hq:H q=none):bM (upd H q o) p:=by
 obtain ⟨n,e,n0⟩:=h
 exact ⟨n,by rw [aB (aH e hq)]; exact e,n0⟩
theorem bM.put {q:Addr} {o:HO} (h:bM H p) (hq:q≠p):bM (upd H q o) p:=by
 obtain ⟨n,e,n0⟩:=h
 exact ⟨n,by rw [aB (Ne.symm hq)]; exact e,n0⟩
theorem HS.new {q:Addr} {o:HO} (h:HS H0 p R D ss room H vr kvs runs m) (nR:R≠p) (nD:D≠p) (hq:H q=none):HS H0 p R D ss room (upd H q o) vr kvs runs m :=
 h.step nR nD (h.pack.new hq) ((aZ.of (Same.refl H)).new hq)
theorem CV {kvs:List (Key × V)} {k:Key} {v:V} (h:k ∉ kvs.map (·.1)):putK kvs k v=kvs++[(k,v)]:=by
 unfold putK
 rw [if_neg]
 intro z
 obtain ⟨x,hx,e⟩:=List.any_eq_true.mp z
 exact h (List.mem_map.mpr ⟨x,hx,of_decide_eq_true e⟩)
theorem vK {n:Str} (hm:ss[m]?=some n):ss.take (m+1)=ss.take m++[n]:=by rw [List.take_add_one,hm]; rfl
theorem yV {n:Str} (nd:ss.Nodup) (hm:ss[m]?=some n):n ∉ ss.take m:=fun z=>by
 obtain ⟨j,hj,ej⟩:=List.mem_iff_getElem.mp z
 obtain ⟨hl,el⟩:=List.getElem?_eq_some_iff.mp hm
 rw [List.length_take] at hj
 rw [List.getElem_take] at ej
 have:=(List.getElem_inj (i:=j) (j:=m) (h₀:=by omega) (h₁:=hl) nd).mp (ej.trans el.symm)
 omega
theorem HS.put {L tp:Addr} {vl:List V} {rs:List Row} {n:Str} {mo rd:Int} (h:HS H0 p R D ss room H vr kvs runs m) (nR:R≠p) (nD:D≠p) (nRD:R≠D) (nL:L≠p) (Z7:L≠R) (nLD:L≠D) (f0:H0 D=none) (fL:H0 L=none)
   (nd:ss.Nodup) (hm:ss[m]?=some n) (hr:(m:Int)<room) (hL:H L=some (.lst vl)) (pl:Paired (fG H) vl rs) (ht:upd H D (.dK (putK kvs (.inr n) (.int mo))) tp=none) :
   HS H0 p R D ss room (upd (upd (upd H D (.dK (putK kvs (.inr n) (.int mo)))) tp (.tup [.str n,.int rd])) L (.lst (vl++[.ref tp]))) vr (putK kvs (.inr n) (.int mo)) runs (m+1) /\
   Paired (fG (upd (upd (upd H D (.dK (putK kvs (.inr n) (.int mo)))) tp (.tup [.str n,.int rd])) L (.lst (vl++[.ref tp])))) (vl++[.ref tp]) (rs++[(n,rd)]):=by
 have t1:bV H (upd H D (.dK (putK kvs (.inr n) (.int mo)))):=(bV.refl H).put h.hD (fun _ z=>nomatch z)
 have t2:bV H (upd (upd H D (.dK (putK kvs (.inr n) (.int mo)))) tp (.tup [.str n,.int rd])):=t1.new ht
 have hL1:upd H D (.dK (putK kvs (.inr n) (.int mo))) L=some (.lst vl):=by rw [aB nLD]; exact hL
 have nLt:L≠tp:=aH hL1 ht
 have hL2:upd (upd H D (.dK (putK kvs (.inr n) (.int mo)))) tp (.tup [.str n,.int rd]) L=some (.lst vl):=by rw [aB nLt]; exact hL1
 have t3:=t2.put (o:=.lst (vl++[.ref tp])) hL2 (fun _ z=>nomatch z)
 have hle:m<ss.length:=(List.getElem?_eq_some_iff.mp hm).1
 have afG:(Sum.inr n:Key) ∉ kvs.map (·.1):=fun z=>by
   rw [h.keys] at z
   obtain ⟨y,hy,e⟩:=List.mem_map.mp z
   exact yV nd hm (by rw [<- Sum.inr.inj e]; exact hy)
 refine ⟨⟨((h.pack.put nD).new ht).put nL,?_,?_,aA (fun _ _ z=>z.ts t3) h.pR,?_,?_,?_,hle,.inl (by omega),h.good⟩,?_⟩
 . intro b o hb e
   have n1:b≠D:=aH e f0
   have n2:b≠L:=aH e fL
   have e1:upd H D (.dK (putK kvs (.inr n) (.int mo))) b=some o:=by rw [aB n1]; exact h.same b o hb e
   rw [aB n2,aB (aH e1 ht)]
   exact e1
 . have e1:upd H D (.dK (putK kvs (.inr n) (.int mo))) R=some (.lst vr):=by rw [aB nRD]; exact h.hR
   rw [aB (Ne.symm Z7),aB (aH e1 ht)]
   exact e1
 . have e1:upd H D (.dK (putK kvs (.inr n) (.int mo))) D=some (.dK (putK kvs (.inr n) (.int mo))):=ao
   rw [aB (Ne.symm nLD),aB (aH e1 ht)]
   exact e1
 . rw [CV afG,List.map_append,h.keys,vK hm,List.map_append]; rfl
 . intro x hx
   rw [vK hm] at hx
   rw [u6]
   by_cases e:(Sum.inr x:Key)=Sum.inr n
   . exact ⟨mo,if_pos e⟩
   . rw [if_neg e]
     rcases List.mem_append.mp hx with z | z
     . exact h.vals x z
     . exact absurd (by rw [List.mem_singleton.mp z]) e
 . refine aY (aA (fun _ _ z=>z.ts t3) pl) (.cons ⟨tp,rfl,?_⟩ .nil)
   rw [aB (Ne.symm nLt),ao]
end
theorem Ku {rs:List Row} {n:Str} {rd:Int} (h:(rs.map Prod.snd).Pairwise (·<·)) (g:∀ r∈rs,r.2<rd):((rs++[(n,rd)]).map Prod.snd).Pairwise (·<·):=by
 rw [List.map_append,List.pairwise_append]
 refine ⟨h,List.pairwise_singleton _ _,fun a ha b hb=>?_⟩
 obtain ⟨r,hr,rfl⟩:=List.mem_map.mp ha
 have e:b=rd:=by simpa using hb
 rw [e]; exact g r hr
theorem Wo {a b c e d:Int} (h0:0<=d) (h4:d<4) (ha:0<=a/\a<=300) (hb:0<=b/\b<=300) (hc:0<=c/\c<=300) (he:0<=e/\e<=300):∃ w:Int,yI [V.int a,.int b,.int c,.int e] d=some (.int w)/\0<=w/\w<=300:=by
 obtain ⟨n,rfl⟩:=Int.eq_ofNat_of_zero_le h0
 match n,h4 with
 | 0,_=>exact ⟨a,rfl,ha⟩
 | 1,_=>exact ⟨b,rfl,hb⟩
 | 2,_=>exact ⟨c,rfl,hc⟩
 | 3,_=>exact ⟨e,rfl,he⟩
 | n+4,h=>exact absurd h (by omega)
def NvR (p ln R D L:Addr) (nm:Str) (room low wide aQ Fx mo:Int) (m:Nat) (x11 x14:V) (H:Hp) (ss:List Str) (vr vl:List V) (kvs:List (Key × V)) (runs:List (List Row)) (rs:List Row) (F:Int->Prop):St->Hp->Prop:=fun σ' H'=>∃ rd:Int,σ'=[some (.ref p),some (.str nm),some (.ref ln),some (.int room),some (.int low),some (.int wide),some (.int aQ),some (.int mo),some (.ref R),some (.ref D),some (.int (m:Int)),some x11,some (.int (low+Fx)),some (.ref L),some x14,some (.int rd)]/\HS H p R D ss room H' vr kvs runs m/\H' L=some (.lst vl)/\Paired (fG H') vl rs/\F rd
section
variable {P:Program} {w:World} {K:PySem.W.Frag} {mg:Str->Option Value} {base:Heap} {t8 t6 tR tL:Tok}
end
end fW
namespace fW
open PySem L2
theorem afH {X:Cx}:gW X (compareOp .NotEq) (fS fun i j=>.bl (!decide (i=j))):=by
 intro pins s σ H x y v u Q I rx ry q
 refine HW pins s σ H x y v u Q I rx ry ?_
 cases x <;> cases y <;> first
   | exact (show False from q).elim
   | (refine ⟨rfl,?_⟩
      rename_i i j
      have e:decide (V.str i=V.str j)=decide (i=j):=by rw [Bool.eq_iff_iff]; simp
      rw [e]; exact q)
theorem O2 {κ:Type} [DecidableEq κ] {kvs:List (κ × V)} {k:κ} {v:V} {x:κ × V} (h:x∈putK kvs k v):x=(k,v)∨x∈kvs:=by
 unfold putK at h
 split at h
 . obtain ⟨y,hy,e⟩:=List.mem_map.mp h
   split at e
   . rename_i c
     exact .inl (by rw [<- e,c])
   . exact .inr (by rw [<- e]; exact hy)
 . rcases List.mem_append.mp h with z | z
   . exact .inr z
   . exact .inl (List.mem_singleton.mp z)
theorem O4 {κ:Type} [DecidableEq κ] {kvs:List (κ × V)} {k:κ} (h:k∈kvs.map (·.1)):∃ v,cj kvs k=some v/\(k,v)∈kvs:=by
 induction kvs with
 | nil=>simp at h
 | cons x r ih =>
   by_cases e:x.1=k
   . refine ⟨x.2,cL e,?_⟩
     rw [<- e]; exact List.mem_cons_self
   . rw [List.map_cons] at h
     rcases List.mem_cons.mp h with z | z
     . exact absurd z.symm e
     . obtain ⟨v,h1,h2⟩:=ih z
       exact ⟨v,by rw [cD e]; exact h1,List.mem_cons_of_mem _ h2⟩
def oU (kvs:List (Key × V)) (ps:List (Str × Str)):Prop:=∀ p∈ps,cj kvs (.inr p.1)=some (.str p.2)
theorem oU.put {kvs:List (Key × V)} {ps:List (Str × Str)} {p:Str × Str} (h:oU kvs ps) (n:∀ q∈ps,q.1≠p.1):oU (putK kvs (.inr p.1) (.str p.2)) (ps++[p]):=fun q hq=>by
 rw [u6]
 rcases List.mem_append.mp hq with z | z
 . rw [if_neg (fun e=>n q z (Sum.inr.inj e))]; exact h q z
 . rw [List.mem_singleton.mp z,if_pos rfl]
def uO (hs:List aJ) (H:Hp) (kf:List (List Key × V)):Prop:=∀ kv∈kf,∃ l:Letter,kv.1=kP l.1/\bx H kv.2 l/\ig hs l
theorem uO.keys {hs:List aJ} {H:Hp}:∀ {kf:List (List Key × V)},uO hs H kf->∃ ks:List (Str × Str),kf.map (·.1)=ks.map kP/\ks.length=kf.length
 | [],_=>⟨[],rfl,rfl⟩
 | kv :: r,h=>by
   obtain ⟨l,e,_⟩:=h kv List.mem_cons_self
   obtain ⟨ks,e2,e3⟩:=uO.keys (kf:=r) fun x hx=>h x (List.mem_cons_of_mem _ hx)
   exact ⟨l.1 :: ks,by rw [List.map_cons,List.map_cons,e,e2],by simp [e3]⟩
def cW (nm:Str) (r:List Row):List (Str × Str):=r.map fun x=>(x.1,nm)
theorem tH (h:aJ):mV h=h.runs.flatMap (cW h.name):=by
 unfold mV oR cW
 rw [List.map_flatten,List.flatMap_def]
theorem CW {hs:List aJ} {kvs:List (Key × V)} {n:Str} (ow:oU kvs (pairsOf hs)) (h:n∈namesOf hs):∃ hh∈hs,n∈eE hh/\cj kvs (.inr n)=some (.str hh.name):=by
 obtain ⟨hh,m,hn⟩:=List.mem_flatMap.mp h
 refine ⟨hh,m,hn,ow (n,hh.name) (List.mem_flatMap.mpr ⟨hh,m,?_⟩)⟩
 obtain ⟨r,hr,er⟩:=List.mem_map.mp hn
 exact List.mem_map.mpr ⟨r,hr,by rw [er]⟩
theorem vM {hs:List aJ} (g:∀ h∈hs,jq h) {n:Str} (h:n∈namesOf hs):Good n:=by
 obtain ⟨hh,m,hn⟩:=List.mem_flatMap.mp h
 obtain ⟨r,hr,er⟩:=List.mem_map.mp hn
 obtain ⟨run,hrun,hr2⟩:=List.mem_flatten.mp hr
 rw [<- er]
 exact ((g hh m).runs run hrun).names r hr2
def PvC (p lh dh O:Addr) (hs:List aJ) (H:Hp):Nat->St->Hp->Prop:=fun i σ H'=>∃ (kv:List (Key × V)) (o4 o5 o6 o7:Option V),σ=[some (.ref p),some (.ref lh),some (.ref dh),some (.ref O),o4,o5,o6,o7,none,none,none,none,none,none,none,none]/\H' O=some (.dK kv)/\oU kv (pairsOf (hs.take i))/\kv.length<=(pairsOf (hs.take i)).length/\Same H H'
def PvD (p lh dh O a:Addr) (hs:List aJ) (hh:aJ) (i:Nat) (H:Hp):Nat->St->Hp->Prop:=fun j σ H'=>∃ (kv:List (Key × V)) (o5 o6 o7:Option V),σ=[some (.ref p),some (.ref lh),some (.ref dh),some (.ref O),some (.ref a),o5,o6,o7,none,none,none,none,none,none,none,none]/\H' O=some (.dK kv)/\oU kv (pairsOf (hs.take i)++(hh.runs.take j).flatMap (cW hh.name))/\kv.length<=(pairsOf (hs.take i)++(hh.runs.take j).flatMap (cW hh.name)).length/\Same H H'
def PvE (p lh dh O a c2:Addr) (hs:List aJ) (hh:aJ) (i j:Nat) (r:List Row) (H:Hp):Nat->St->Hp->Prop:=fun t σ H'=>∃ (kv:List (Key × V)) (o6 o7:Option V),σ=[some (.ref p),some (.ref lh),some (.ref dh),some (.ref O),some (.ref a),some (.ref c2),o6,o7,none,none,none,none,none,none,none,none]/\H' O=some (.dK kv)/\oU kv (pairsOf (hs.take i)++(hh.runs.take j).flatMap (cW hh.name)++(cW hh.name r).take t)/\kv.length<=(pairsOf (hs.take i)++(hh.runs.take j).flatMap (cW hh.name)++(cW hh.name r).take t).length/\Same H H'
section
variable {P:Program} {w:World} {K:PySem.W.Frag} {mg:Str->Option Value} {base:Heap} {t8 t6 tR tL:Tok}
end
end fW
namespace fW
open PySem L2
def O5:List Str:=["me","you","abcdefgh","z"]
theorem Uj:∀ s∈O5,Good s:=by
 have h:O5.all (fun s=>decide (1<=s.length) && decide (s.length<=8) && s.cps.toList.all low)=true:=by decide +kernel
 intro s hs
 obtain ⟨h1,h2⟩:=Bool.and_eq_true_iff.mp (List.all_eq_true.mp h s hs)
 obtain ⟨h3,h4⟩:=Bool.and_eq_true_iff.mp h1
 exact ⟨of_decide_eq_true h3,of_decide_eq_true h4,fun c hc=>List.all_eq_true.mp h2 c hc⟩
theorem O6:O5.Nodup:=by decide +kernel
theorem mY {p:Addr} {H Ha Hb:Hp} (s:Same H Ha) (n:H p=none) (b:aZ p Ha Hb):Same H Hb:=fun c o e=>b c o (fun z=>by rw [z,n] at e; cases e) (s c o e)
theorem vN:∀ (more kvs:List (Key × V)),(more.map (·.1)).Nodup->(∀ k∈more.map (·.1),k ∉ kvs.map (·.1))->oY kvs more=kvs++more
 | [],kvs,_,_=>by rw [List.append_nil]; rfl
 | x :: r,kvs,nd,dj=>by
   rw [List.map_cons] at nd dj
   have nd':=List.nodup_cons.mp nd
   show oY (putK kvs x.1 x.2) r=_
   rw [CV (dj x.1 List.mem_cons_self),vN r _ nd'.2,List.append_assoc]
   . rfl
   . intro k hk z
     rw [List.map_append] at z
     rcases List.mem_append.mp z with z | z
     . exact dj k (List.mem_cons_of_mem _ hk) z
     . have:k=x.1:=by simpa using z
       exact nd'.1 (by rw [<- this]; exact hk)
theorem vO {kvs more:List (Key × V)} {k:Key}:cj (kvs++more) k=(cj kvs k).or (cj more k):=by
 unfold cj
 rw [List.find?_append]
 cases kvs.find? (fun kv=>decide (kv.1=k)) <;> rfl
theorem yW {kvs:List (Key × V)} {k:Key} (h:k ∉ kvs.map (·.1)):cj kvs k=none:=by
 cases e:cj kvs k with
 | none=>rfl
 | some v=>exact absurd (TV e) h
section
variable {P:Program} {w:World} {K:PySem.W.Frag} {mg:Str->Option Value} {base:Heap} {t8 t6 tR tL:Tok}
end
end fW
namespace fW
open PySem L2
def Ax:Option Int->Da
 | none=>.non
 | some i=>.int i
def mZ (l:Letter):Da:=.tup [.str l.1.1,.str l.1.2,.int l.2.1,Ax l.2.2]
theorem Good.da {H:Hp} {z:Str} (g:Good z):eV H (.str z) (.str z):=.str z (by have:=g.hi; have mC:sizeLine=16777216:=sizeLine_eq; omega)
theorem Kv {α:Type} {H:Hp} {R:V->α->Prop} {f:α->Da} {vs:List V} {xs:List α} (p:Paired R vs xs) (h:∀ v x,x∈xs->R v x->eV H v (f x)):jm H vs (xs.map f):=by
 induction p with
 | nil=>exact .nil
 | cons r _ ih=>exact .cons (h _ _ (List.mem_cons_self ..) r) (ih fun v x hx=>h v x (List.mem_cons_of_mem _ hx))
section
variable {H:Hp} {v:V}
end
theorem O7 {n:Str} {l h d:Int} (g:Good n) (hw:l<=h) (hd:0<=d):Al (.str n) (.int l) (.int h) (.int d)=true:=by
 unfold Al
 rw [show rA (.str n)=true from g.CN]
 show (true && ((true && (true && true)) && (decide (l<=h) && decide (0<=d))))=true
 rw [decide_eq_true hw,decide_eq_true hd]
 rfl
theorem yX {hs:List aJ} {l:Letter} (g:ig hs l):jU (mZ l)=true:=by
 obtain ⟨⟨s,t⟩,le,m⟩:=l
 have g1:=g.sent.CN
 have g2:=g.taken.CN
 have g3:=g.least
 cases m with
 | none=>simp [mZ,jU,Ax,Ir,rA,gQ,intD,g1,g2,g3]
 | some m =>
   have g4:=g.most m rfl
   simp [mZ,jU,Ax,Ir,rA,gQ,intD,g1,g2,g3,g4]
theorem O8 {ps:List (Str × Str)} {n x:Str} (nd:(ps.map Prod.fst).Nodup) (h:(n,x)∈ps):Iu ps n=some x:=by
 unfold Iu
 induction ps with
 | nil=>simp at h
 | cons p ps ih =>
   rw [List.map_cons,List.nodup_cons] at nd
   by_cases e:p.1=n
   . rw [List.find?_cons_of_pos (by simp [e])]
     rcases List.mem_cons.mp h with z | z
     . rw [<- z]; rfl
     . exact absurd (List.mem_map.mpr ⟨_,z,e.symm⟩) nd.1
   . rw [List.find?_cons_of_neg (by simp [e])]
     rcases List.mem_cons.mp h with z | z
     . rw [<- z] at e; exact absurd rfl e
     . exact ih nd.2 z
theorem owner {hs:List aJ} (nd:(namesOf hs).Nodup) {h:aJ} {n:Str} (hh:h∈hs) (hn:n∈eE h):Iu (pairsOf hs) n=some h.name:=by
 refine O8 (by rw [mW]; exact nd) ?_
 obtain ⟨r,hr,e⟩:=List.mem_map.mp hn
 exact List.mem_flatMap.mpr ⟨h,hh,List.mem_map.mpr ⟨r,hr,by rw [e]⟩⟩
end fW
namespace fW
open PySem L2
section
variable {σ:St} {H:Hp} {te ta tb:TE} {ts:TA} {d:Da} {ds xs ys:List Da} {i j:Int} {tl th:TO} {lo hi:Option Int} {K:PySem.W.Frag}
end
section
variable {σ:St} {H:Hp} {te:TE} {ts:TA} {ds ods:List Da} {K:PySem.W.Frag}
end
end fW
namespace fW
open PySem L2
section
variable {σ:St} {H:Hp} {te:TE} {ts:TA} {ds ods:List Da} {K:PySem.W.Frag} {D:Ends} {t u:TS}
end
section
variable {n l h d r:Da}
end
end fW
namespace fW
open PySem L2
section
variable {g:BI->TG} {te:BI->TE} {σ0:St} {D:Addr} {End:Hp->Prop} {H1:Hp}
end
section
variable {P:Program} {w:World} {K:PySem.W.Frag} {mg:Str->Option Value} {base:Heap} {t8 t6 tR tL:Tok}
end
end fW
namespace fW
open PySem L2
section
variable {P:Program} {w:World} {K:PySem.W.Frag} {mg:Str->Option Value} {base:Heap} {t8 t6 tR tL:Tok}
end
end fW
namespace fW
open PySem L2
section
variable {hs:List aJ} {s t l m:Da} {xs:List Da}
end
section
variable {P:Program} {w:World} {K:PySem.W.Frag} {mg:Str->Option Value} {base:Heap} {t8 t6 tR tL:Tok}
end
end fW
namespace fW
open PySem L2
section
variable {P:Program} {w:World} {K:PySem.W.Frag} {mg:Str->Option Value} {base:Heap} {t8 t6 tR tL:Tok}
end
end fW
namespace fW
open PySem L2
section
variable {H:Hp} {v:V}
end
section
variable {g:BI->TG} {te:BI->TE} {σ0:St} {D:Addr} {End:Hp->Prop} {H1:Hp}
end
section
variable {P:Program} {w:World} {K:PySem.W.Frag} {mg:Str->Option Value} {base:Heap} {t8 t6 tR tL:Tok}
end
end fW
namespace fW
open PySem L2
section
variable {g:BI->TG} {te:BI->TE} {σ0:St} {D:Addr} {End:Hp->Prop} {H1:Hp}
end
theorem Fy {lo c:Int} {n:Nat} {g:TG} {tb:TS} {D:Ends} {σ:St} {H:Hp} (Pv:Nat->St->Hp->Prop) (h0:Pv 0 σ H)
   (hs:∀ i σ H,i<n->Pv i σ H->g (.int (lo+i * c)) σ H fun σ2 H2=>tb { D with nx:=Pv (i+1),ct:=Pv (i+1),bk:=D.nx } σ2 H2) (hd:∀ σ H,Pv n σ H->D.nx σ H) :
   ∃ W:Nat->Nat->St->Hp->Prop,(∃ m,W 0 m σ H)/\∀ i m σ H,W i m σ H ->
     ((Oh lo c n).stop i H/\D.nx σ H)∨((Oh lo c n).go i H/\∃ N:St->Hp->Prop,(∀ σ' H',N σ' H'->∃ m',m'<m/\W (i+1) m' σ' H')/\∀ x H',(Oh lo c n).Tg i H x H'->g x σ H' fun σ2 H2=>tb { D with nx:=N,ct:=N,bk:=D.nx } σ2 H2):=by
 refine ⟨fun i m σ H=>m=n-i/\i<=n/\Pv i σ H,⟨n,rfl,Nat.zero_le _,h0⟩,fun i m σ H ⟨em,hi,p⟩=>?_⟩
 subst em
 rcases Nat.lt_or_ge i n with lt | ge
 . refine .inr ⟨lt,Pv (i+1),fun σ' H' p'=>⟨n-(i+1),by omega,rfl,lt,p'⟩,fun x H' ⟨e,y⟩=>?_⟩
   subst e y
   exact hs i σ _ lt p
 . have e:i=n:=by omega
   subst e
   exact .inl ⟨Nat.le_refl _,hd σ H p⟩
section
variable {P:Program} {w:World} {K:PySem.W.Frag} {mg:Str->Option Value} {base:Heap} {t8 t6 tR tL:Tok}
end
end fW
namespace Fw
section
variable {α:Type} [DecidableEq α]
end
end Fw
namespace L2
open PySem PySem.Spec PyProof.Rows
section
variable {X:Cx}
theorem range_any (bs:List Bool):((List.range bs.length).any fun i=>(bs[i]?).getD false)=bs.any id:=by
 have key:∀ (l:List Bool) (k:Nat),((List.range l.length).any fun i=>(l[i]?).getD false)=l.any id:=fun l _=>by
   induction l with
   | nil=>rfl
   | cons b l ih =>
     rw [List.length_cons,List.range_succ_eq_map,List.any_cons,List.any_map,List.any_cons]
     congr 1
 exact key bs 0
theorem O9 (hc:X.calm=true):dM X (.builtin "any") (fun xs H Q=>∃ (p:Addr) (bs:List Bool),xs=[.ref p]/\cT X.K H p (bs.map V.bl)/\Q (.bl (bs.any id)) H):=by
 intro pins s σ H xs us Q I r h
 obtain ⟨p,bs,rfl,hq,q⟩:=h
 obtain ⟨u,rfl,ru⟩:=vals1 r
 cases ru
 obtain ⟨its,rv,pl,_⟩:=I.list hq
 have hb:=Cv rv
 have hl:=pl.isList
 have hlt:p<s.heap.objs.size:=by obtain ⟨_,e,_⟩:=hl; exact Heap.lt_size e
 refine call_any_walk (wpAny_pyIter_list hl ?_)
 refine ⟨s.heap.objs.size,[s.heap.objs.size,p],[s.heap.objs.size],its.toArray.size,_,_,fun i=>(bs[i]?).getD false,rfl,Walks.list (A:=X.A.in1) (I.ok.hd hc) _ p (Nat.ne_of_lt hlt) its.toArray,
   ⟨⟨_,Heap.get?_push_size _ rfl,rfl,rfl⟩,hl.push _⟩,fun i v s' Q' E' hP hQ=>?_,fun h' tk hk=>?_⟩
 . obtain ⟨b,e,rfl⟩:=hb.get i v (by simpa using hP)
   simp only [e,Option.getD_some] at hQ
   exact wpAny_truthy_bool hQ
 . have e:((List.range its.toArray.size).any fun i=>(bs[i]?).getD false)=bs.any id:=by
     rw [List.size_toArray,hb.length]; exact range_any bs
   rw [e]
   exact ⟨.bl _,H,I.kept (LSm.kept_iter hk),rfl,q⟩
end
end L2
namespace L2
open PySem PySem.Spec PyProof.Rows
section
variable {prog:Program} {w:World} {A:Around} {E:Value->Shared->Prop} {s:Shared} {z TI TO T i1 i2 l1 l2:Addr} {k1 k2:Nat} {xs ys:Array Value}
end
end L2
namespace L2
open PySem PySem.Spec PyProof.Rows
section
variable {X:Cx} {pins:List (Addr × Obj)} {σ:St} {H N:Hp} {s:Shared} {h':Heap}
end
end L2
namespace L2
open PySem PySem.Spec PyProof.Rows
section
variable {X:Cx} {elt kx vx tg iter:Expr} {ifs:List Expr} {scope iH:Scope} {pos:Pos} {own cap:List Str} {ix:List Nat} {wi:TI} {g:BI->TG} {tt:BI->TT} {tk tv:BI->TE}
end
end L2
namespace L2
open PySem PySem.Spec PyProof.Rows
theorem rB:mroOf (.type "dict")=pure [.type "dict",.type "object"]:=by rw [mroOf_type]; kernel_rfl
theorem ur:typeLookup (.type "dict") "__new__" = pure (some (.builtin "dict.__new__")):=by rw [typeLookup_type,builtinLookup_eq_fast]; kernel_rfl
theorem tK:TypeCalled "dict" "dict.__new__" "dict.__init__" :=
 ⟨by decide +kernel,by decide +kernel,⟨_,_,rB⟩,madeBy_type rB ur (by decide +kernel),by decide +kernel,by rw [isSubtype_type]; kernel_rfl,PySem.F.slot_dict_init⟩
theorem mD (a:Value):checkTypeCall "dict" ⟨[a],[]⟩=pure ():=by kernel_rfl
theorem vP (a:Value):checkBuiltinCall "dict.__new__" ⟨[.type "dict",a],[]⟩=pure ():=by kernel_rfl
theorem vQ:entryFor table "dict.__new__" = some Builtin.«dict.__new__»:=entryFor_of_tree (by kernel_rfl)
theorem m5:plainId "dict.__new__" = true:=by decide +kernel
theorem m6:entryFor table "dict.update.loop" = some Builtin.«dict.update.loop»:=entryFor_of_tree (by kernel_rfl)
theorem gR:plainId "dict.update.loop" = true:=by decide +kernel
theorem xY:isSubtype (.type "dict") (.type "dict")=pure true:=by rw [isSubtype_type]; kernel_rfl
section
variable {prog:Program} {w:World} {A:Around} {E:Value->Shared->Prop} {s:Shared}
theorem oV (a:Value) {Q₁:Value->Shared->Prop}
   (h:Q₁ (.ref s.heap.objs.size) { s with heap:=s.heap.push { cls:=.type "dict",data:=.dict #[] } }) :
   codeAny (model prog w) A (.call (.builtin "dict.__new__") ⟨[.type "dict",a],[]⟩) (wants Q₁ E) s:=by
 refine codeAny_of_tree ?_
 show wpAny _ A.in1 (do checkBuiltinCall "dict.__new__" ⟨[.type "dict",a],[]⟩; again (.builtin "dict.__new__" ⟨[.type "dict",a],[]⟩)) _ _ s
 refine wpAny_bind (wpAny_of_eq (vP a) (wpAny_pure ⟨plainId_quiet m5 _,codeAny_builtin vQ ?_⟩))
 rw [Around.under_plainId m5 _]
 have hsub:=xY
 have hmro:=rB
 have hty:∀ s:Shared,s.TypeIs (.type "dict") "type":=fun _=>rfl
 obtain ⟨hp,g,d,tk,os⟩:=s
 unfold Builtin.«dict.__new__»
 repeat (any_goals (first | assumption | wp_step))
theorem CZ:typeLookup (.type "list") "keys" = pure none:=by rw [typeLookup_type,builtinLookup_eq_fast]; kernel_rfl
set_option maxRecDepth 8000 in
theorem Uk {a:Addr} {o:Obj} {xs:Array Value} {k:Nat} {Q:Option Value->Shared->Prop}
   (hx:s.heap.get? a=some o) (hc:o.cls=.type "list") (hdat:o.data=.seq xs k) (hd:o.dict=none) (hA:A.handled=none)
   (h:∀ h' tk e,Heap.NewExcOf s.heap h' e "AttributeError"->Q none { s with heap:=h',toks:=tk }) :
   wpAny (model prog w) A (getAttr? (.ref a) "keys") Q E s:=by
 obtain ⟨c,dct,dat,sl⟩:=o
 simp only at hc hdat hd
 subst hc hdat hd
 obtain ⟨hp,g,d,tk,os⟩:=s
 have hT:∀ tk',(⟨hp,g,d,tk',os⟩:Shared).TypeIs (.ref a) "list":=fun _=>⟨_,hx,rfl⟩
 have f1:=sub_AttributeError
 have f3:=F.slot_list_getattribute.lookup
 have f4:=F.slot_list_getattribute.bind (.ref a)
 have f5:=am_list_getattr_none
 unfold getAttr? getAttrBy? getAttrBy
 repeat (any_goals (first | assumption | exact hT _ | ((with_reducible show wpAny _ _ (call (Value.builtin "list.__getattribute__") _ _) _ _ _); refine call_meets F.slot_list_getattribute (hT _) am_entry_list_getattribute (F.args_list_getattribute_2 _ _) (meets_getattribute_miss_list a xs k sl "keys" _ CZ (by decide +kernel) (by size_fits)) ⟨hx,hA,fun h' tk' e hx'=>?_⟩) | wp_step))
 obtain ⟨t',u',he⟩:=hx'.there
 show wpAny _ _ (getattributeRaised _ _ _ _ _ _ _) _ _ _
 unfold getattributeRaised
 repeat (any_goals (first | assumption | wp_step))
 exact h _ _ _ hx'.of
end
end L2
namespace L2
open PySem PySem.Spec PyProof.Rows
section
variable {prog:Program} {w:World} {A:Around} {E:Value->Shared->Prop} {s:Shared}
theorem IsTup.pairItems {T:Addr} {x y:Value} {Q:List Value->Shared->Prop} (h:IsTup s.heap T #[x,y]) (q:Q [x,y] s):wpAny (model prog w) A (Builtin.Dict.pairItems (.ref T)) Q E s:=by
 obtain ⟨o,e,c,n,d⟩:=h
 unfold Builtin.Dict.pairItems
 refine wpAny_bind (wpAny_typeOf (T:="tuple") ⟨o,e,c⟩ ?_)
 rw [if_pos (by decide)]
 exact wpAny_bind (wpAny_seqItems e d (wpAny_pure q))
variable {K:Type} [DecidableEq K] (knd:KeyKind prog w K)
end
section
variable {X:Cx}
theorem Fz:dM X (.type "dict") (fun xs H Q=>∃ b more,xs=[.ref b]/\Rd H b (.dK more)/\∀ d,H d=none->Q (.ref d) (upd H d (.dK more))):=by
 intro pins s σ H xs us Q I r h
 obtain ⟨b,more,rfl,hb,q⟩:=h
 obtain ⟨u,rfl,ru⟩:=vals1 r
 cases ru
 obtain ⟨z2,d2,vs,rel,dd⟩:=oN I.hok hb
 have lb:b<s.heap.objs.size:=by obtain ⟨o,_,_,e,_⟩:=dd; exact Heap.lt_size e
 refine callType_codes (Q₁:=fun obj s₁=>obj=.ref s.heap.objs.size/\s₁={ s with heap:=s.heap.push { cls:=.type "dict",data:=.dict #[] } }) tK (mD _) PySem.F.entry_dict_init (oV _ ⟨rfl,rfl⟩) fun obj s₁ h₁=>?_
 obtain ⟨rfl,rfl⟩:=h₁
 have up:∀ c o,s.heap.get? c=some o->(s.heap.push { cls:=.type "dict",data:=.dict #[] }).get? c=some o:=fun c o e=>Heap.get?_push_of_some _ e
 have dS:(s.heap.push { cls:=.type "dict",data:=.dict #[] }).DictOf (aK X.prog X.w) s.heap.objs.size []:=Heap.DictOf.new _
 have Sg:(s.heap.push { cls:=.type "dict",data:=.dict #[] }).DictOf (aK X.prog X.w) b vs:=dd.keep up
 refine ⟨⟨_,Heap.get?_push_size _ rfl,rfl⟩,PySem.F.args_dict_init_2 _ _,?_⟩
 unfold Builtin.«dict.__init__»
 refine wpAny_bind ?_
 unfold Builtin.Dict.selfAndRest
 refine wpAny_bind (wpAny_notOrdered_dict (Heap.DictOf.typeIs (s:={ s with heap:=s.heap.push { cls:=.type "dict",data:=.dict #[] } }) dS) ?_)
 refine wpAny_pure ?_
 show wpAny _ _ (Builtin.Dict.updateFrom "dict.__init__" s.heap.objs.size (.ref b) [] .none) _ _ _
 unfold Builtin.Dict.updateFrom
 have ty:Shared.TypeIs { s with heap:=s.heap.push { cls:=.type "dict",data:=.dict #[] } } (.ref b) "dict":=Heap.DictOf.typeIs (s:={ s with heap:=s.heap.push { cls:=.type "dict",data:=.dict #[] } }) Sg
 refine wpAny_bind (wpAny_typeOf ty ?_)
 rw [if_neg (by decide)]
 refine wpAny_bind ?_
 unfold Builtin.Dict.merge
 refine wpAny_bind ?_
 unfold Builtin.Dict.readDirectly
 refine wpAny_bind (wpAny_isInstance ty isSubtype_dict_dict ?_)
 simp only [Bool.not_true,Bool.false_eq_true,if_false]
 refine wpAny_bind (wpAny_specialOf ty PySem.F.slot_dict_iter.lookup (wpAny_pure ?_))
 simp only [beq_self_eq_true,if_true]
 refine wpAny_bind (wpAny_pure ?_)
 refine wpAny_mergeDict (s:={ s with heap:=s.heap.push { cls:=.type "dict",data:=.dict #[] } }) (hsz:=by rw [List.length_nil,<- rel.length]; omega) (Nat.ne_of_gt lb) d2 dS Sg fun h' hd' ho' hs'=>?_
 show wpAny _ _ (Builtin.Dict.addKeywords s.heap.objs.size [] >>= _) _ _ _
 refine wpAny_bind (wpAny_pure (wpAny_pure ⟨rfl,?_⟩))
 have nd:(vs.map (·.1)).Nodup:=by obtain ⟨_,_,_,_,_,_,_,_,n⟩:=dd; exact n
 rw [merged_nil_of_nodup vs nd] at hd'
 have kk:∀ c o,s.heap.get? c=some o->h'.get? c=some o:=fun c o e=>(hs'.2 c (Nat.ne_of_lt (Heap.lt_size e))).trans (up c o e)
 refine ⟨.ref s.heap.objs.size,_,I.laid (t':=s.toks) kk (Nat.le_refl _) (Ad z2 (beq_eq_false_iff_ne.mpr (Ne.symm (Nat.ne_of_lt I.big))) rel hd'),rfl,q _ (I.hok.fresh (Nat.le_refl _))⟩
end
end L2
namespace L2
open PySem PySem.Spec PyProof.Rows
def tM (H H':Hp):Prop:=∀ b o,H b=some o->H' b=some o∨∃ kvs ob,o=.dK kvs/\H' b=some (.iQ ob o)
theorem tM.refl (H:Hp):tM H H:=fun _ _ e=>.inl e
def Itd (d:Addr) (o:Obj) (kvs:List (Key × V)):It:=⟨fun i H=>H d=some (.iQ o (.dK kvs))/\i<kvs.length,fun i H v H'=>H'=H/\∃ k x,kvs[i]?=some (k,x)/\v=kV k,fun i H=>H d=some (.iQ o (.dK kvs))/\kvs.length<=i⟩
theorem yZ {P:Program} {w:World} {k:Key} {u:Value} (h:(aK P w).is k u=true):RelV (kV k) u:=by
 rcases bO (show jB k u=true from h) with ⟨j,t,e1,e2⟩ | ⟨x',t,e1,e2⟩ | ⟨e1,e2⟩
 . subst e1 e2; exact ⟨t,rfl⟩
 . subst e1 e2; exact ⟨t,rfl⟩
 . subst e1 e2; rfl
section
variable {X:Cx} {pins:List (Addr × Obj)} {σ:St} {H:Hp} {s:Shared}
theorem Inv.freeze {a:Addr} {kvs:List (Key × V)} (I:Inv X pins σ H s) (h:H a=some (.dK kvs)):∃ o,Inv X pins σ (upd H a (.iQ o (.dK kvs))) s:=by
 obtain ⟨z,d,vs,rel,o,es,ep,e,r⟩:=vd I.hok h
 exact ⟨o,I.write (t':=s.toks) (h':=s.heap) (e:=a) (by rw [h]; exact True.intro) (.inl rfl) (fun b u _ q=>q) ⟨o,e⟩ ⟨e,z,d,vs,rel,o,es,ep,e,r⟩⟩
theorem Inv.iQ {a:Addr} {o:Obj} {kvs:List (Key × V)} (I:Inv X pins σ H s) (h:H a=some (.iQ o (.dK kvs))):∃ vs es ep,KV kvs vs/\(a == sysModules)=false/\o.data=.dict es ep/\s.heap.DictAt (aK X.prog X.w) a vs ep:=by
 obtain ⟨e,z,d,vs,rel,o',es,ep,e',r⟩:=(show bQ X.prog X.w H s.heap a (.iQ o (.dK kvs)) from I.hok a _ h)
 rw [e] at e'
 cases e'
 exact ⟨vs,es,ep,rel,d,r.2.1,o,es,e,r⟩
theorem Kw {P:Program} {w:World} {K:PySem.W.Frag} {tg:Expr} (d it:Addr) (o:Obj) (es:Array DictEntry) (ep:Nat) (kvs:List (Key × V)) (hd:o.data=.dict es ep) :
   Turn P w K tg (Itd d o kvs) [it] it (fun i h=>h.IsKeyIter it d i kvs.length ep) where
 mem:=by simp
 obj:=fun i h st b hb=>by
   have e:b=it:=by simpa using hb
   subst e
   obtain ⟨o,e,c,dd⟩:=st
   exact ⟨o,e,fun v z=>by rw [dd] at z; cases z⟩
 keep:=fun i h h' st k=>st.at fun o e=>k it (by simp) o e
 item:=by
   intro X hP hw hK hc i pins s σ H E I hf st hg
   subst hP hw hK
   obtain ⟨f0,f1,f2,f3,f4,f5⟩:=hf it (by simp)
   obtain ⟨hd',lt⟩:=hg
   obtain ⟨vs,es',ep',rel,_,dd,hat⟩:=I.iQ hd'
   rw [hd] at dd
   cases dd
   have lv:=rel.length
   obtain ⟨⟨k,x⟩,hx⟩:∃ p,vs[i]?=some p:=⟨vs[i]'(by omega),List.getElem?_eq_getElem _⟩
   have hk:∃ y,kvs[i]?=some (k,y):=by
     have z:=congrArg (fun l=>l[i]?) rel.keys
     simp only [List.getElem?_map,hx,Option.map_some] at z
     obtain ⟨p,e1,e2⟩:=Option.map_eq_some_iff.mp z
     exact ⟨p.2,by rw [e1,<- e2]⟩
   obtain ⟨y,hy⟩:=hk
   refine wpAny_pyNext_dict_item (by rw [<- lv]; exact st) hat hx fun key h' hkey hit' hs'=>?_
   have I1:Inv X pins σ H { s with heap:=h',toks:=s.toks }:=I.turned (fun b o hb e=>hs'.extBut b o hb e) f0 f1 f3 f4 f5
   rw [<- lv] at hit'
   obtain ⟨oi,ei,ci,di⟩:=id hit'
   exact ⟨_,rfl,sW (s:={ s with heap:=h' }) (n:="dict_keyiterator") ei ci di (by decide) ⟨kV k,H,I1,yZ hkey,⟨rfl,k,y,hy,rfl⟩,hit',fun b hb=>(hf b hb).1⟩⟩
 done:=by
   intro X hP hw hK hc i pins s σ H E I hf st hg
   subst hP hw hK
   obtain ⟨f0,f1,f2,f3,f4,f5⟩:=hf it (by simp)
   obtain ⟨hd',le⟩:=hg
   obtain ⟨vs,es',ep',rel,_,dd,hat⟩:=I.iQ hd'
   rw [hd] at dd
   cases dd
   have lv:=rel.length
   exact wpAny_pyNext_dict_end (I.ok.hd hc) (by rw [<- lv]; exact st) hat (List.getElem?_eq_none (by omega)) fun h' eb=>⟨rfl,I.turned (t':=s.toks) (fun b o hb e=>eb b o hb e) f0 f1 f3 f4 f5⟩
 self:=fun _ _ _ _ _ st h=>wpAny_pyIter_keyiter st h
def abu (tl:TE):TI:=fun σ H R=>tl σ H fun x H1=>∃ a kvs,x=.ref a/\Rd H1 a (.dK kvs)/\∀ (o:Obj) (H2:Hp),H2 a=some (.iQ o (.dK kvs))->tM H1 H2->(∀ b,b≠a->H2 b=H1 b)->R (Itd a o kvs) H2
theorem Ul {tg l:Expr} {tl:TE} (hl:PE X l tl):PI X tg l (abu tl):=by
 intro pins s σ H R I h
 refine cY (hl pins s σ H _ I h) fun v s1 ⟨x,H1,I1,r1,q1⟩=>?_
 obtain ⟨a,kvs,e,hq,q⟩:=q1
 subst e
 cases r1
 obtain ⟨o,H2,I2,e2,sf,oth⟩:∃ o H2,Inv X pins σ H2 s1/\H2 a=some (.iQ o (.dK kvs))/\tM H1 H2/\∀ b,b≠a->H2 b=H1 b:=by
   rcases hq with hq | ⟨o,hq⟩
   . obtain ⟨o,I2⟩:=I1.freeze hq
     refine ⟨o,_,I2,ao,fun b u e=>?_,fun b hb=>aB hb⟩
     by_cases z:b=a
     . subst z
       rw [hq] at e
       cases e
       exact .inr ⟨kvs,o,rfl,ao⟩
     . exact .inl (by rw [aB z]; exact e)
   . exact ⟨o,H1,I1,hq,tM.refl _,fun _ _=>rfl⟩
 obtain ⟨vs,es,ep,rel,ds,dd,hat⟩:=I2.iQ e2
 refine wpAny_pyIter_dict ds hat ?_
 refine ⟨s1.heap.objs.size,[s1.heap.objs.size],_,_,H2,rfl,I2.kept (t':=s1.toks) fun b o e=>Heap.get?_push_of_some _ e,Kw a _ o es ep kvs dd,⟨_,Heap.get?_push_size _ rfl,rfl,by rw [<- rel.length]; rfl⟩,fun b hb=>?_,q o H2 e2 sf oth⟩
 have e:b=s1.heap.objs.size:=by simpa using hb
 subst e
 exact I2.zU (Nat.le_refl _) (I2.hok.fresh (Nat.le_refl _))
end
section
variable {H1:Hp} {D:Addr} {σ0:St} {g:BI->TG} {tt:BI->TT} {te:BI->TE} {End:Hp->Prop}
theorem Ky {a:Addr} {o:Obj} {kvs:List (Key × V)} (Pv:Nat->Hp->Prop) (h0:Pv 0 (upd H1 D (.lst []))) (hl:∀ i H,i<=kvs.length->Pv i H->H a=some (.iQ o (.dK kvs))) (stop:∀ H,Pv kvs.length H->End H)
   (turn:∀ i k x H,kvs[i]?=some (k,x)->i<kvs.length->Pv i H->∀ b,g b (kV k) σ0 H fun σ2 H2=>tt b σ2 H2 fun c H3=>if c=true then jP D (te b) σ2 H3 (Nx kvs.length i Pv) else Nx kvs.length i Pv H3) :
   ∃ W:Nat->Nat->Hp->Prop,(∃ m,W 0 m (upd H1 D (.lst [])))/\∀ b,jE (Itd a o kvs) (g b) (tt b) (jP D (te b)) σ0 End W :=
 nG kvs.length Pv h0 (fun H p=>⟨⟨hl _ H (Nat.le_refl _) p,Nat.le_refl _⟩,stop H p⟩) fun i H hi p =>
   ⟨⟨hl i H (Nat.le_of_lt hi) p,hi⟩,fun x H' ⟨e,k,y,hy,ex⟩ b=>by subst e ex; exact turn i k y _ hy hi p b⟩
end
end L2
namespace HT
open PySem PySem.Spec PyProof.Rows
section
variable {prog:Program} {w:World} {A:Around} {E:Value->Shared->Prop} {s:Shared}
end
end HT
namespace L2
open PySem PySem.Spec PyProof.Rows
section
variable {X:Cx}
end
end L2
namespace L2
open PySem PySem.Spec PyProof.Rows
section
variable {X:Cx}
end
end L2
namespace L2
open PySem PySem.Spec PyProof.Rows
section
variable {prog:Program} {w:World} {A:Around} {E:Value->Shared->Prop} {s:Shared}
variable {K:Type} [DecidableEq K] (knd:KeyKind prog w K)
end
section
variable {X:Cx}
end
end L2
namespace HT
open PySem PySem.Spec PyProof.Rows
section
variable {prog:Program} {w:World} {A:Around} {E:Value->Shared->Prop} {s:Shared}
end
end HT
namespace L2
open PySem PySem.Spec PyProof.Rows
section
variable {X:Cx}
end
end L2
namespace L2
open PySem PySem.Spec PyProof.Rows
section
variable {X:Cx} {e e1 e2:Expr} {es:List Expr} {te:TE} {pos:Pos}
variable {tj:TJ}
end
end L2
namespace TP
open PySem PySem.Builtin PySem.Builtin.Str
end TP
namespace jQ
open PySem L2 fW
def top (i:Nat):Stmt:=PySem.Challenge.pw_skewbooks_k37_rows_and_letters_kept.main.body.getD i (.Pass ⟨0,0,0,0⟩)
abbrev rC:Stmt:=top 11
abbrev vR:Stmt:=top 12
abbrev rD:Stmt:=top 17
abbrev pC:Stmt:=top 18
abbrev nM:Stmt:=top 22
abbrev nP:Stmt:=top 23
abbrev nQ:Stmt:=top 42
abbrev iW:Stmt:=top 43
abbrev jV:Stmt:=top 44
abbrev gU:Stmt:=top 45
abbrev nT:Stmt:=top 46
abbrev rE:Stmt:=top 50
abbrev za:Stmt:=top 51
abbrev zc:Stmt:=top 52
abbrev lW:Stmt:=top 53
abbrev kO:Stmt:=top 54
abbrev gj:Stmt:=top 55
abbrev jr:Stmt:=top 56
abbrev dB:Stmt:=top 57
abbrev iu:Stmt:=top 58
abbrev kW:Stmt:=top 59
abbrev m7:Stmt:=top 60
abbrev zf:Stmt:=top 61
abbrev Ay:Stmt:=top 62
structure Txt (mg:Str->Option Value) (t8 t6 tR tL:Tok):Prop where
 Um:mg "isinstance" = none
 int:mg "int" = none
 bool:mg "bool" = none
 str:mg "str" = none
 tuple:mg "tuple" = none
 len:mg "len" = none
 all:mg "all" = none
 zip:mg "zip" = none
 set:mg "set" = none
 sorted:mg "sorted" = none
 divmod:mg "divmod" = none
 range:mg "range" = none
 max:mg "max" = none
 min:mg "min" = none
 abs:mg "abs" = none
 list:mg "list" = none
 any:mg "any" = none
 dict:mg "dict" = none
 most:mg "LONGEST_NAME" = some (.int 8 t8)
 abv:mg "MOST_HOUSES" = some (.int 6 t6)
 abw:mg "MOST_ROWS" = some (.int 24 tR)
 abx:mg "MOST_LETTERS" = some (.int 24 tL)
section
variable {P:Program} {w:World} {K:PySem.W.Frag} {mg:Str->Option Value} {base:Heap} {t8 t6 tR tL:Tok}
theorem Uo:bf ["thing"] ["thing"] (aD rC):=⟨rfl,rfl,rfl,by decide +kernel,rfl,by decide +kernel,by decide +kernel⟩
theorem Pa {f:Addr} {fd:FuncData} (F:mK K "is_whole" "is_whole" rC f fd) (T:Txt mg t8 t6 tR tL):aO P w K mg base cg 1 f fd ["thing"] (lV K):=by
 refine F.ok Uo (fun vs H Q E h=>?_) (fun cdv A outer s H vs Q E hr h=>?_)
 . obtain ⟨x,rfl,_⟩:=h
   rfl
 . obtain ⟨x,rfl,⟨⟨T',ty⟩,_⟩,q⟩:=h
   refine ⟨_,aG (bh (qu (aN gP rfl T.Um PyProof.Rows.boot_isinstance (aj (pV 0) (aj (jk (v:=.ty "int") rfl T.int PyProof.Rows.boot_int rfl) aq)))
     (mL (abg (aN gP rfl T.Um PyProof.Rows.boot_isinstance (aj (pV 0) (aj (jk (v:=.ty "bool") rfl T.bool PyProof.Rows.boot_bool rfl) aq))))))),?_⟩
   obtain ⟨k1,k2,_,_⟩:=Ah ty
   have e:=Yl ty
   refine ⟨x,_,_,_,rfl,ty,k1,?_⟩
   cases q1:Ag T' "int" with
   | false =>
     rw [q1] at e
     rw [<- e] at q
     exact q
   | true =>
     rw [q1] at e
     refine ⟨x,_,_,_,rfl,ty,k2,?_⟩
     show Q (.bl (!Ag T' "bool")) H
     rw [<- e] at q
     simpa using q
theorem Yp:bf ["thing"] ["thing"] (aD vR):=⟨rfl,rfl,rfl,by decide +kernel,rfl,by decide +kernel,by decide +kernel⟩
theorem Uq {f:Addr} {fd:FuncData} (F:mK K "is_name" "is_name" vR f fd) (T:Txt mg t8 t6 tR tL):aO P w K mg base cg 1 f fd ["thing"] (vG K):=by
 refine F.ok Yp (fun vs H Q E h=>?_) (fun cdv A outer s H vs Q E hr h=>?_)
 . obtain ⟨x,rfl,_⟩:=h
   rfl
 . obtain ⟨x,rfl,⟨⟨T',ty⟩,hz⟩,q⟩:=h
   refine ⟨_,au (cC (uq (dH (xW (aN gP rfl T.Um PyProof.Rows.boot_isinstance (aj (pV 0) (aj (jk (v:=.ty "str") rfl T.str PyProof.Rows.boot_str rfl) aq)))))
       (pw_or1 (dH (X6 oLe oLe aF (aN Ab rfl T.len PySem.boot_len (aj (pV 0) aq)) (pZ (v:=.int 8) rfl T.most ⟨_,rfl⟩))))) (aG (bh jR)) aW)
     (aG (bh (aN (qp rfl) rfl T.all PyProof.Rows.boot_all (aj (cB (iH:=aD vR) (own:=["sign"]) (cap:=[]) (ix:=[]) rfl rfl ⟨rfl,by decide +kernel,by decide +kernel,by decide +kernel,rfl,by decide +kernel⟩
       (XR (pV 0)) (fun b=>aL (i:=0) (show (["sign"]:List Str).Nodup by decide +kernel) rfl (Or.inl rfl)) (fun b=>cN) (fun b=>afn abb abb jC (pV 0) jC)) aq)))),?_⟩
   obtain ⟨_,_,k3,_⟩:=Ah ty
   refine ⟨x,_,_,_,rfl,ty,k3,?_⟩
   cases q1:Ag T' "str" with
   | false =>
     have e:CN x=false:=by cases ty <;> first | rfl | exact absurd q1 (by decide)
     rw [e] at q
     exact q H (Same.refl H)
   | true =>
     obtain ⟨z,rfl⟩:∃ z,x=.str z:=by cases ty <;> first | exact ⟨_,rfl⟩ | exact absurd q1 (by decide)
     have hz':=hz z rfl
     refine ⟨z,rfl,hz',?_⟩
     refine fP (fun h1=>?_) (fun h1=>?_)
     . have h1':1<=z.length:=by have:=of_decide_eq_true h1; omega
       refine fP (fun h2=>?_) (fun h2=>?_)
       . have e:CN (.str z)=false:=by
           have h2':¬ z.length<=8:=by
             intro h
             have:decide ((z.length:Int)<=8)=true:=decide_eq_true (by omega)
             rw [this] at h2; cases h2
           simp [CN,h2']
         rw [e] at q
         exact q H (Same.refl H)
       . have h2':z.length<=8:=by
           have:¬ ¬ (z.length:Int)<=8:=fun h=>h2 (by rw [decide_eq_false h]; rfl)
           omega
         refine ⟨z,rfl,fun D hD=>Oa (fun i H'=>dU H H' D ((z.cps.toList.take i).map fun c=>V.bl (low c))) (dU.start hD) (fun H' G=>?_) (fun i c H' hc hi G b=>?_)⟩
         . refine ⟨D,z.cps.toList.map low,rfl,cT.of (by rw [G.at',take_all (by simp),List.map_map]; rfl),?_⟩
           have e:CN (.str z)=(z.cps.toList.map low).all id:=by
             simp [CN,h1',h2',List.all_map]
           rw [e] at q
           exact q H' G.same
         . have hl:=Ym c
           have sz:z.cps.size<=sizeLine:=hz'
           have fin:∀ (k:Bool),k=low c->Nx z.cps.size i (fun i H'=>dU H H' D ((z.cps.toList.take i).map fun c=>V.bl (low c))) (upd H' D (.lst ((z.cps.toList.take i).map (fun c=>V.bl (low c))++[.bl k]))):=fun k hk=>by
             subst hk
             refine nx hi ?_
             show dU H _ D ((z.cps.toList.take (i+1)).map fun c=>V.bl (low c))
             rw [Ob (T4 hc)]
             exact G.put hD _
           refine fP (fun h3=>?_) (fun h3=>?_)
           . refine ⟨_,G.at',Cw hi sz,fin _ ?_⟩
             have h3':decide (97<=c)=true:=hl.1.symm.trans h3
             show (!decide (("z" : Str).cps.toList<(⟨#[c]⟩:Str).cps.toList))=low c
             rw [hl.2]
             simp [low,of_decide_eq_true h3']
           . refine ⟨_,G.at',Cw hi sz,fin _ ?_⟩
             have h3':¬ 97<=c:=fun h=>h3 (hl.1.trans (decide_eq_true h))
             simp [low,h3']
     . have e:CN (.str z)=false:=by
         have h1':¬ 1<=z.length:=by
           intro h
           exact h1 (decide_eq_true (by omega))
         simp [CN,h1']
       rw [e] at q
       exact q H (Same.refl H)
theorem Pb:bf ["_law_cell"] ["_law_cell"] (aD rE):=⟨rfl,rfl,rfl,by decide +kernel,rfl,by decide +kernel,by decide +kernel⟩
theorem Pg {f:Addr} {fd:FuncData} (F:mK K "_law_mixed" "_law_mixed" rE f fd):aO P w K mg base cg 1 f fd ["_law_cell"] Ao:=by
 refine F.ok Pb (fun vs H Q E h=>?_) (fun cdv A outer s H vs Q E hr h=>?_)
 . obtain ⟨c,rfl,_⟩:=h
   rfl
 . obtain ⟨c,rfl,hb,q⟩:=h
   refine ⟨_,(aG (bh (bA oMod (bA abq (pV 0) aF) (bA afk aF aF)))),?_⟩
   refine ⟨IntMulOk.of_le (m:=2000000) (n:=400) hb (by decide +kernel) (by decide),?_⟩
   refine ⟨⟨by decide,by decide,by decide⟩,by show (0:Int)<10 ^ Int.toNat 60; decide +kernel,?_⟩
   exact q _ (Int.emod_nonneg _ (by decide +kernel))
theorem Ur:bf ["_law_script","_law_k"] ["_law_script","_law_k"] (aD za):=⟨rfl,rfl,rfl,by decide +kernel,rfl,by decide +kernel,by decide +kernel⟩
theorem Us {f Az:Addr} {fd Dc:FuncData} (F:mK K "_law_pack" "_law_pack" za f fd) (T:Txt mg t8 t6 tR tL)
   (Iw:aO P w K mg base cg 1 Az Dc ["_law_cell"] Ao) (Iz:mg "_law_mixed" = some (.ref Az)) (IK:PySem.W.keepIn K (.ref Az)=true) (IV:Binds K Dc ["_law_cell"] []):aO P w K mg base cg 2 f fd ["_law_script","_law_k"] (Aq K):=by
 refine F.ok Ur (fun vs H Q E h=>?_) (fun cdv A outer s H vs Q E hr h=>?_)
 . obtain ⟨a,ns,k,rfl,_⟩:=h
   rfl
 . obtain ⟨a,ns,k,rfl,ha,hb,hl,k0,k1,q⟩:=h
   have small:∀ z:Int,0<=z->z<=10000000->Builtin.Int.intBits z<=1048576:=fun z z0 z1=>Nat.le_trans (intBits_le_64 (by omega) (by omega)) (by decide)
   have fin:∀ n:Int,0<=n->aaP (sZ (tC (.int n)) JX) ([]:St) H Q:=fun n n0=>⟨by show 1<=sizeLine; rw [sizeLine_eq]; decide,fun p hp=>q p _ hp ⟨n,ao,n0⟩ ((Same.refl H).upd hp)⟩
   refine ⟨_,(au (cC (qt oLt (pV 1) (aN bZ rfl T.len PySem.boot_len (aj (pV 0) aq)) (bB _)) (aG (bh (d8 (aj (aM Iw hr rfl Iz IK IV .nil aP (aj (bA iV (bI MJ (pV 0) (pV 1) (fun _ _=>rfl)) (bA X3 aF (pV 1))) aq)) aq)))) aW) (aG (bh (d8 (aj (aM Iw hr rfl Iz IK IV .nil aP (aj (bA iV (bA X3 aF (pV 1)) aF) aq)) aq))))),?_⟩
   refine ⟨a,_,rfl,.inl ha,?_⟩
   refine fP (fun z=>?_) (fun z=>?_)
   . have lt:k<((ns.map V.int).length:Int):=of_decide_eq_true z
     obtain ⟨j,rfl⟩:=Int.eq_ofNat_of_zero_le k0
     rw [List.length_map] at lt
     have hj:ns[j]?=some ns[j]:=List.getElem?_eq_getElem (by omega)
     refine abh ha (v:=.int ns[j]) (lN (by rw [List.getElem?_map,hj]; rfl)) ?_
     refine ⟨.inl ⟨by decide,by decide⟩,?_⟩
     have b1:=intBits_add_le (hb ns[j] (List.mem_of_getElem? hj)) (small (23 * (j:Int)) (by omega) (by omega))
     refine ⟨_,rfl,Nat.le_trans b1 (by decide),fun n n0=>?_⟩
     exact fin n n0
   . refine ⟨.inl ⟨by decide,by decide⟩,?_⟩
     refine ⟨_,rfl,Nat.le_trans (small (5099 * k+7) (by omega) (by omega)) (by decide),fun n n0=>?_⟩
     exact fin n n0
theorem IW:bf ["_law_pack_here","_law_size","_law_digit"] ["_law_pack_here","_law_size"] (aD zc):=⟨rfl,rfl,rfl,by decide +kernel,rfl,by decide +kernel,by decide +kernel⟩
theorem Ut {f:Addr} {fd:FuncData} (F:mK K "_law_take" "_law_take" zc f fd) (T:Txt mg t8 t6 tR tL):aO P w K mg base cg 1 f fd ["_law_pack_here","_law_size"] mX:=by
 refine F.ok IW (fun vs H Q E h=>?_) (fun cdv A outer s H vs Q E hr h=>?_)
 . obtain ⟨p,m,rfl,_⟩:=h
   rfl
 . obtain ⟨p,m,rfl,⟨n,hp,n0⟩,m0,m1,q⟩:=h
   refine ⟨_,(au (uV (aN Ci rfl T.divmod PyProof.Rows.boot_divmod (aj (bI MJ (pV 0) aF (fun _ _=>rfl)) (aj (pV 1) aq))) (jg rfl (aU (Xg (pV 0) aF afr) (aU (aL (i:=2) IW.nd rfl (Or.inl rfl)) fX)))) (aG (bh (pV 2)))),?_⟩
   refine vm hp (i:=0) (by rfl) ?_
   refine ⟨n,m,rfl,⟨m0,m1⟩,fun t ht=>?_⟩
   have ne:p≠t:=aH hp ht
   refine ⟨t,_,rfl,bW.of ao,rfl,_,_,rfl,?_⟩
   refine setAt (j:=0) (show upd H t (.tup [.int (n / m),.int (n % m)]) p=some (.lst [.int n]) by rw [aB ne]; exact hp) (by rfl) ?_
   refine ⟨_,_,rfl,rfl,?_⟩
   refine q _ _ (Int.emod_nonneg n (by omega)) (Int.emod_lt_of_pos n m0) ⟨n / m,ao,Int.ediv_nonneg n0 (by omega)⟩ ?_
   exact ((aZ.of (Same.refl H)).new ht).upd
theorem kY:bf ["_law_pack_here","_law_amount","_law_letters_here","_law_turn","_law_pick","_law_size"] ["_law_pack_here","_law_amount"] (aD lW):=⟨rfl,rfl,rfl,by decide +kernel,rfl,by decide +kernel,by decide +kernel⟩
theorem Ph {f cX:Addr} {fd dF:FuncData} (F:mK K "_law_names" "_law_names" lW f fd) (T:Txt mg t8 t6 tR tL)
   (cG:aO P w K mg base cg 1 cX dF ["_law_pack_here","_law_size"] mX) (cH:mg "_law_take" = some (.ref cX)) (cI:PySem.W.keepIn K (.ref cX)=true) (cJ:Binds K dF ["_law_pack_here","_law_size"] []):aO P w K mg base cg 2 f fd ["_law_pack_here","_law_amount"] Aw:=by
 refine F.ok kY (fun vs H Q E h=>?_) (fun cdv A outer s H vs Q E hr h=>?_)
 . obtain ⟨p,rfl,_⟩:=h
   rfl
 . obtain ⟨p,rfl,hp,q⟩:=h
   have mC:sizeLine=16777216:=sizeLine_eq
   refine ⟨_,(au (aR (i:=2) kY.nd rfl (Or.inr rfl) jC) (au (aR (i:=3) kY.nd rfl (Or.inl rfl) (aM cG hr rfl cH cI cJ .nil aP (aj (pV 0) (aj aF aq)))) (au (aR (i:=2) kY.nd rfl (Or.inr rfl) (bA X5 (iT T5 (pV 2) (Og (pV 3)) ql) (iT T5 (pV 2) ql (Og (pV 3))))) (au (aR (i:=4) kY.nd rfl (Or.inl rfl) (aM cG hr rfl cH cI cJ .nil aP (aj (pV 0) (aj aF aq)))) (au (aR (i:=5) kY.nd rfl (Or.inr rfl) (aM cG hr rfl cH cI cJ .nil aP (aj (pV 0) (aj aF aq)))) (au (cC (qt oEq (pV 4) aF (bB _)) (aG (bh (cB (iH:=aD lW) (own:=["_law_k"]) (cap:=["_law_letters_here"]) (ix:=[2]) rfl rfl ⟨rfl,by decide +kernel,by decide +kernel,by decide +kernel,rfl,by decide +kernel⟩ (gA rfl T.range (aj (pV 1) aq)) (fun b=>(aL (i:=0) (show (["_law_k","_law_letters_here"]:List Str).Nodup by decide +kernel) rfl (Or.inl rfl))) (fun b=>cN) (fun b=>(bA T9 (bI X7 (pV 1) (bA oDiv (pV 0) aF) (fun _ _=>rfl)) (bA iV aF (bA oMod (pV 0) aF))))))) aW) (au (cC (qt oEq (pV 4) aF (bB _)) (aG (bh (cB (iH:=aD lW) (own:=["_law_k"]) (cap:=["_law_letters_here","_law_size"]) (ix:=[2,5]) rfl rfl ⟨rfl,by decide +kernel,by decide +kernel,by decide +kernel,rfl,by decide +kernel⟩ (gA rfl T.range (aj (pV 1) aq)) (fun b=>(aL (i:=0) (show (["_law_k","_law_letters_here","_law_size"]:List Str).Nodup by decide +kernel) rfl (Or.inl rfl))) (fun b=>cN) (fun b=>(bA X5 (bI X7 (pV 1) (bA oMod (pV 0) aF) (fun _ _=>rfl)) (iT T5 (pV 1) (Og aF) (Og (bA iV aF (pV 2))))))))) aW) (aG (bh (cB (iH:=aD lW) (own:=["_law_k"]) (cap:=["_law_letters_here","_law_size"]) (ix:=[2,5]) rfl rfl ⟨rfl,by decide +kernel,by decide +kernel,by decide +kernel,rfl,by decide +kernel⟩ (gA rfl T.range (aj (pV 1) aq)) (fun b=>(aL (i:=0) (show (["_law_k","_law_letters_here","_law_size"]:List Str).Nodup by decide +kernel) rfl (Or.inl rfl))) (fun b=>cN) (fun b=>(bA X5 (iT T5 (pV 1) (Og aF) (Og (bA iV aF (pV 2)))) (bI X7 (pV 1) (bA oMod (pV 0) aF) (fun _ _=>rfl)))))))))))))),?_⟩
   refine ⟨p,26,rfl,hp,by decide,by decide,fun t H1 t0 t1 hp1 s1=>?_⟩
   obtain ⟨t,rfl⟩:=Int.eq_ofNat_of_zero_le t0
   have ht:t<26:=by omega
   have la:abc.length<=sizeLine:=by rw [Av]; omega
   refine Ih (z:=abc) la ?_
   refine Ih (z:=abc) la ?_
   have rt:=OD (t:=t) (by omega)
   refine ⟨by
     have z1:=PySem.Txt.slice_le abc (some (t:Int)) none
     have z2:=PySem.Txt.slice_le abc none (some (t:Int))
     rw [Av] at z1 z2
     omega,?_⟩
   generalize PySem.Txt.slice abc (some (t:Int)) none++PySem.Txt.slice abc none (some (t:Int))=R at rt
   have lR:R.length=26:=by rw [<- len_list,rt]; exact uN (by omega)
   refine ⟨p,3,rfl,hp1,by decide,by decide,fun pk H2 p0 p1 hp2 s2=>?_⟩
   obtain ⟨pick,rfl⟩:=Int.eq_ofNat_of_zero_le p0
   refine ⟨p,8,rfl,hp2,by decide,by decide,fun sz H3 z0 z1 hp3 s3=>?_⟩
   obtain ⟨size,rfl⟩:=Int.eq_ofNat_of_zero_le z0
   have Ja:aZ p H H3:=(s1.trans s2).trans s3
   obtain ⟨ok1,ok2⟩:=Kr (t:=t) (sz:=size) (pick:=pick) ht (by omega) (by omega)
   have ok3:=Oz (t:=t) (sz:=size) (pick:=pick) ht (by omega) (by omega)
   have fin:∀ (D:Addr) (H':Hp),H3 D=none->dU H3 H' D ((dI t size pick).map V.str)->Q (.ref D) H':=fun D H' hD G=>by
     refine q D (dI t size pick) H' ?_ G.at' (by unfold dI; rw [List.length_map,List.length_range]) ok1 ok2 ok3 (by obtain ⟨n,e,n0⟩:=hp3; exact ⟨n,G.same _ _ e,n0⟩) (Ja.trans (aZ.of G.same))
     cases e:H D with
     | none=>rfl
     | some o =>
       have nD:D≠p:=fun z=>by
         obtain ⟨n,e',_⟩:=hp3
         rw [<- z,hD] at e'; cases e'
       have:=Ja D o nD e
       rw [hD] at this; cases this
   have step:∀ (i:Nat),i<12->(dI t size pick).take (i+1)=(dI t size pick).take i++[nameS t size pick i]:=fun i hi=>by
     have e:(dI t size pick)[i]?=some (nameS t size pick i):=by unfold dI; rw [List.getElem?_map,List.getElem?_range hi]; rfl
     rw [List.take_add_one,e]; rfl
   have aos:(dI t size pick).length=12:=by unfold dI; rw [List.length_map,List.length_range]
   have put:∀ (i:Nat) (D:Addr) (H':Hp) (z:Str),i<12->H3 D=none->dU H3 H' D (((dI t size pick).take i).map V.str)->z.cps.toList=qz t size pick i->∃ zs,H' D=some (.lst zs)/\zs.length<sizeLine/\Nx 12 i (fun i H'=>dU H3 H' D (((dI t size pick).take i).map V.str)) (upd H' D (.lst (zs++[.str z]))):=fun i D H' z hi hD G ez=>by
     refine ⟨_,G.at',by rw [List.length_map,List.length_take]; omega,nx hi ?_⟩
     show dU H3 _ D (((dI t size pick).take (i+1)).map V.str)
     have ez':z=nameS t size pick i:=by
       cases z with
       | mk c=>unfold nameS; congr 1; rw [<- ez]
     rw [step i hi,List.map_append,ez']
     exact G.put hD _
   have all:((dI t size pick).take 12).map V.str=(dI t size pick).map V.str:=by rw [List.take_of_length_le (by omega)]
   have aby:(PySem.Txt.slice R (some 4) (some (4+(size:Int)))).cps.toList=((Ox t).drop 4).take size:=by
     have e:PySem.Txt.slice R (some ((4:Nat):Int)) (some ((4+size:Nat):Int))=_:=Ke R 4 (4+size)
     have e2:PySem.Txt.slice R (some 4) (some (4+(size:Int)))=⟨((R.cps.toList.take (4+size)).drop 4).toArray⟩:=e
     rw [e2,rt,List.drop_take]
     simp
   have aou:(PySem.Txt.slice R (some 4) (some (4+(size:Int)))).length<=26:=by rw [<- lR]; exact PySem.Txt.slice_le R _ _
   refine fP (fun c1=>?_) (fun c1=>?_)
   . have pk0:pick=0:=by have:=of_decide_eq_true c1; omega
     refine ⟨12,rfl,by decide,by decide,fun D hD=>pB (lo:=0) (n:=12) (fun i H'=>dU H3 H' D (((dI t size pick).take i).map V.str)) (dU.start hD) (fun H' G=>fin D H' hD (by rw [<- all]; exact G)) (fun i H' hi G b=>?_)⟩
     refine ⟨⟨by decide,by decide⟩,?_⟩
     refine Oc (z:=R) (by omega) (by rw [rt]; exact vI (by omega) (by rw [uN (by omega)]; omega)) ?_
     refine ⟨by show (0:Int)<8; decide,?_⟩
     refine ⟨_,_,rfl,rfl,by omega,by omega,?_⟩
     refine put i D H' _ hi hD G ?_
     subst pk0
     unfold qz
     rw [if_pos rfl]
     show List.replicate _ _=_
     congr 1
     . omega
     . congr 1; omega
   . refine fP (fun c2=>?_) (fun c2=>?_)
     . have Wq:pick=1:=by have:=of_decide_eq_true c2; omega
       refine ⟨12,rfl,by decide,by decide,fun D hD=>pB (lo:=0) (n:=12) (fun i H'=>dU H3 H' D (((dI t size pick).take i).map V.str)) (dU.start hD) (fun H' G=>fin D H' hD (by rw [<- all]; exact G)) (fun i H' hi G b=>?_)⟩
       refine ⟨by show (0:Int)<26; decide,?_⟩
       refine Oc (z:=R) (by omega) (by rw [rt]; exact vI (by omega) (by rw [uN (by omega)]; omega)) ?_
       refine Ih (z:=R) (by omega) ?_
       refine ⟨by show 1+_<=sizeLine; omega,?_⟩
       refine put i D H' _ hi hD G ?_
       subst Wq
       rw [app_list,aby]
       unfold qz
       rw [if_neg (by decide),if_pos rfl]
       have ei:((0+(i:Int)) % 26).toNat=i % 26:=by omega
       show (Ox t).getD ((0+(i:Int)) % 26).toNat 0 :: _=_
       rw [ei]
       rfl
     . have pk2:pick≠0/\pick≠1:=⟨fun e=>c1 (decide_eq_true (by rw [e]; rfl)),fun e=>c2 (decide_eq_true (by rw [e]; rfl))⟩
       refine ⟨12,rfl,by decide,by decide,fun D hD=>pB (lo:=0) (n:=12) (fun i H'=>dU H3 H' D (((dI t size pick).take i).map V.str)) (dU.start hD) (fun H' G=>fin D H' hD (by rw [<- all]; exact G)) (fun i H' hi G b=>?_)⟩
       refine Ih (z:=R) (by omega) ?_
       refine ⟨by show (0:Int)<26; decide,?_⟩
       refine Oc (z:=R) (by omega) (by rw [rt]; exact vI (by omega) (by rw [uN (by omega)]; omega)) ?_
       refine ⟨by show _+1<=sizeLine; omega,?_⟩
       refine put i D H' _ hi hD G ?_
       rw [app_list,aby]
       unfold qz
       rw [if_neg pk2.1,if_neg pk2.2]
       congr 1
       show [_]=[_]
       congr 2; omega
theorem Pj:bf ["thing","many"] ["thing","many"] (aD rD):=⟨rfl,rfl,rfl,by decide +kernel,rfl,by decide +kernel,by decide +kernel⟩
theorem Pk {f:Addr} {fd:FuncData} (F:mK K "has_parts" "has_parts" rD f fd) (T:Txt mg t8 t6 tR tL):aO P w K mg base cg 1 f fd ["thing","many"] uM:=by
 refine F.ok Pj (fun vs H Q E h=>?_) (fun cdv A outer s H vs Q E hr h=>?_)
 . obtain ⟨x,d,n,rfl,_⟩:=h
   rfl
 . obtain ⟨x,d,n,rfl,hd,q⟩:=h
   obtain ⟨_,⟨T',ty,kt⟩,_⟩:=hd.kind (K:=K)
   refine ⟨_,(aG (bh (qu (aN gP rfl T.Um PyProof.Rows.boot_isinstance (aj (pV 0) (aj (jk (v:=.ty "tuple") rfl T.tuple PyProof.Rows.boot_tuple rfl) aq))) (mL (iG oEq (aN bZ rfl T.len PySem.boot_len (aj (pV 0) aq)) (pV 1) (bB _)))))),?_⟩
   refine ⟨_,_,_,_,rfl,ty,kt,?_⟩
   cases d with
   | tup xs =>
     refine cF fun oM bN=>?_
     obtain ⟨a,vs,ez1,ha,l60,r⟩:=hd.abp
     subst bN
     subst ez1
     refine ⟨a,vs,rfl,.inr (bW.of ha),?_⟩
     show Q (.bl (decide ((vs.length:Int)=(n:Int)))) H
     have e:decide ((vs.length:Int)=(n:Int))=decide (xs.length=n):=by
       rw [r.len,Bool.eq_iff_iff,decide_eq_true_iff,decide_eq_true_iff]; omega
     rw [e]; exact q
   | _=>exact q
theorem Pn:bf ["name","low","high","drift"] ["name","low","high","drift"] (aD pC):=⟨rfl,rfl,rfl,by decide +kernel,rfl,by decide +kernel,by decide +kernel⟩
theorem Pq {f jH cQ:Addr} {fd jW dG:FuncData} (F:mK K "is_clock" "is_clock" pC f fd) (T:Txt mg t8 t6 tR tL)
   (rF:aO P w K mg base cg 1 jH jW ["thing"] (vG K)) (rG:mg "is_name" = some (.ref jH)) (rH:PySem.W.keepIn K (.ref jH)=true) (rJ:Binds K jW ["thing"] [])
   (iI:aO P w K mg base cg 1 cQ dG ["thing"] (lV K)) (iJ:mg "is_whole" = some (.ref cQ)) (k_whole:PySem.W.keepIn K (.ref cQ)=true) (iK:Binds K dG ["thing"] []):aO P w K mg base cg 2 f fd ["name","low","high","drift"] Am:=by
 refine F.ok Pn (fun vs H Q E h=>?_) (fun cdv A outer s H vs Q E hr h=>?_)
 . obtain ⟨x0,x1,x2,x3,d0,d1,d2,d3,rfl,_⟩:=h
   rfl
 . obtain ⟨x0,x1,x2,x3,d0,d1,d2,d3,rfl,h0,h1,h2,h3,q⟩:=h
   have mC:sizeLine=16777216:=sizeLine_eq
   obtain ⟨th0,_,_,n0⟩:=h0.kind (K:=K)
   refine ⟨_,(au (cC (uq (dH (xW (aM rF hr rfl rG rH rJ .nil aP (aj (pV 0) aq)))) (pw_or1 (dH (xW (aN (qp rfl) rfl T.all PyProof.Rows.boot_all (aj (cB (iH:=aD pC) (own:=["number"]) (cap:=[]) (ix:=[]) rfl rfl ⟨rfl,by decide +kernel,by decide +kernel,by decide +kernel,rfl,by decide +kernel⟩ (jh (bK (aj (pV 1) (aj (pV 2) (aj (pV 3) aq))))) (fun b=>(aL (i:=0) (show (["number"]:List Str).Nodup by decide +kernel) rfl (Or.inl rfl))) (fun b=>cN) (fun b=>(aM iI hr rfl iJ k_whole iK .nil aP (aj (pV 0) aq)))) aq)))))) (aG (bh jR)) aW) (aG (bh (qu (iG oLe (pV 1) (pV 2) (bB _)) (mL (iG oGe (pV 3) aF (bB _))))))),?_⟩
   refine ⟨x0,rfl,th0,fun H1 s1=>?_⟩
   rw [n0]
   unfold Al at q
   cases e0:rA d0 with
   | false=>rw [e0] at q; exact q H1 s1
   | true =>
     rw [e0,Bool.true_and] at q
     refine ⟨by show 3<=sizeLine; omega,fun p hp=>?_⟩
     refine ⟨p,rfl,⟨_,bW.of ao⟩,fun D hD=>comp_map (xs:=[x1,x2,x3]) (ys:=[gQ d1,gQ d2,gQ d3].map V.bl) hD (bW.of ao) (by show 3<=sizeLine; omega) rfl (fun i x H' hx s2 b R hR=>?_) (fun H' s2 e=>?_)⟩
     . have S:=(s1.upd hp).trans s2
       have hx':∃ dd,eV H' x dd/\([gQ d1,gQ d2,gQ d3].map V.bl)[i]?=some (.bl (gQ dd)):=by
         match i,hx with
         | 0,hx=>cases hx; exact ⟨d1,h1.same S,rfl⟩
         | 1,hx=>cases hx; exact ⟨d2,h2.same S,rfl⟩
         | 2,hx=>cases hx; exact ⟨d3,h3.same S,rfl⟩
       obtain ⟨dd,hdd,ey⟩:=hx'
       refine cF fun oM bN=>?_
       obtain ⟨th,_,w,_⟩:=hdd.kind (K:=K)
       subst bN
       refine ⟨x,rfl,th,?_⟩
       rw [w]
       exact hR H' _ ey (Same.refl _)
     . refine ⟨D,[gQ d1,gQ d2,gQ d3],rfl,cT.of e,?_⟩
       have ea:([gQ d1,gQ d2,gQ d3]:List Bool).all id=(gQ d1 && (gQ d2 && gQ d3)):=by simp
       rw [ea]
       have qq:=q H' ((s1.upd hp).trans s2)
       cases e1:(gQ d1 && (gQ d2 && gQ d3)) with
       | false=>rw [e1] at qq; exact qq
       | true =>
         rw [e1,Bool.true_and] at qq
         obtain ⟨w1,w2⟩:=Bool.and_eq_true_iff.mp e1
         obtain ⟨w2,w3⟩:=Bool.and_eq_true_iff.mp w2
         cases h1 with
         | int i1 =>
           cases h2 with
           | int i2 =>
             cases h3 with
             | int i3 =>
               refine fP (fun z=>?_) (fun z=>?_)
               . have z':decide (intD (.int i1)<=intD (.int i2))=true:=z
                 rw [z',Bool.true_and] at qq
                 exact qq
               . have z':decide (intD (.int i1)<=intD (.int i2))=false:=(Bool.not_eq_true _).mp z
                 rw [z',Bool.false_and] at qq
                 exact qq
             | _=>cases w3
           | _=>cases w2
         | _=>cases w1
theorem Kz:bf ["names"] ["names"] (aD nM):=⟨rfl,rfl,rfl,by decide +kernel,rfl,by decide +kernel,by decide +kernel⟩
theorem KC {f:Addr} {fd:FuncData} (F:mK K "are_unlike" "are_unlike" nM f fd) (T:Txt mg t8 t6 tR tL):aO P w K mg base cg 1 f fd ["names"] vH:=by
 refine F.ok Kz (fun vs H Q E h=>?_) (fun cdv A outer s H vs Q E hr h=>?_)
 . obtain ⟨x,hs,rfl,_⟩:=h
   rfl
 . obtain ⟨a,ss,rfl,ha,few,q⟩:=h
   have ek:(ss.map (Sum.inr:Str->Key)).map kV=ss.map V.str:=by rw [List.map_map]; rfl
   refine ⟨_,(aG (bh (iG oEq (aN Kh rfl T.len PySem.boot_len (aj (bJ (Ol rfl) rfl T.set PyProof.Rows.boot_set (aj (pV 0) aq)) aq)) (aN bZ rfl T.len PySem.boot_len (aj (pV 0) aq)) (bB _)))),?_⟩
   refine ⟨a,ss.map Sum.inr,rfl,cT.of (by rw [ek]; exact ha),by rw [List.length_map]; omega,fun l hl=>?_⟩
   refine ⟨l,ss.map Sum.inr,rfl,ao,?_⟩
   have s1:=(Same.refl H).upd (o:=.ext (Oj P w l (ss.map Sum.inr))) hl
   refine ⟨a,ss.map V.str,rfl,.inl (cT.of (s1 _ _ ha)),?_⟩
   show Q (.bl (decide (((cZ (ss.map Sum.inr) (ss.map (Sum.inr:Str->Key)).length).length:Int)=((ss.map V.str).length:Int)))) _
   have e:decide (((cZ (ss.map Sum.inr) (ss.map (Sum.inr:Str->Key)).length).length:Int)=((ss.map V.str).length:Int))=decide ss.Nodup:=by
     rw [Bool.eq_iff_iff,decide_eq_true_iff,decide_eq_true_iff,List.length_map,List.length_map]
     constructor
     . intro z
       have z2:=yS (ks:=ss.map (Sum.inr:Str->Key)) ss.length (by rw [List.length_map]; exact Nat.le_refl _) (by omega)
       rw [List.take_of_length_le (by rw [List.length_map]; exact Nat.le_refl _)] at z2
       rw [List.nodup_iff_pairwise_ne,List.pairwise_map] at z2
       rw [List.nodup_iff_pairwise_ne]
       exact z2.imp fun h e=>h (by rw [e])
     . intro z
       have nk:(ss.map (Sum.inr:Str->Key)).Nodup:=by
         rw [List.nodup_iff_pairwise_ne,List.pairwise_map]
         exact (List.nodup_iff_pairwise_ne.mp z).imp fun h z=>h (Sum.inr.inj z)
       rw [vq nk _ (by rw [List.length_map]; exact Nat.le_refl _),List.length_take,List.length_map]
       omega
   rw [e]
   exact q _ s1
theorem kZ:bf ["thing","sent","taken","least","most"] ["thing"] (aD nP):=⟨rfl,rfl,rfl,by decide +kernel,rfl,by decide +kernel,by decide +kernel⟩
theorem KD {f lX jH cQ:Addr} {fd m8 jW dG:FuncData} (F:mK K "is_letter" "is_letter" nP f fd)
   (Ba:aO P w K mg base cg 1 lX m8 ["thing","many"] uM) (Bb:mg "has_parts" = some (.ref lX)) (Bc:PySem.W.keepIn K (.ref lX)=true) (Bd:Binds K m8 ["thing","many"] [])
   (rF:aO P w K mg base cg 1 jH jW ["thing"] (vG K)) (rG:mg "is_name" = some (.ref jH)) (rH:PySem.W.keepIn K (.ref jH)=true) (rJ:Binds K jW ["thing"] [])
   (iI:aO P w K mg base cg 1 cQ dG ["thing"] (lV K)) (iJ:mg "is_whole" = some (.ref cQ)) (k_whole:PySem.W.keepIn K (.ref cQ)=true) (iK:Binds K dG ["thing"] []):aO P w K mg base cg 2 f fd ["thing"] (spD jU):=by
 refine F.ok kZ (fun vs H Q E h=>?_) (fun cdv A outer s H vs Q E hr h=>?_)
 . obtain ⟨x,d,rfl,_⟩:=h
   rfl
 . obtain ⟨x,d,rfl,hd,q⟩:=h
   refine ⟨_,(au (cC (dH (xW (aM Ba hr rfl Bb Bc Bd .nil aP (aj (pV 0) (aj aF aq))))) (aG (bh jR)) aW) (au (uV (pV 0) (jg rfl (aU (aL (i:=1) kZ.nd rfl (Or.inl rfl)) (aU (aL (i:=2) kZ.nd rfl (Or.inl rfl)) (aU (aL (i:=3) kZ.nd rfl (Or.inl rfl)) (aU (aL (i:=4) kZ.nd rfl (Or.inl rfl)) fX)))))) (au (cC (uq (dH (xW (aM rF hr rfl rG rH rJ .nil aP (aj (pV 1) aq)))) (pw_or1 (dH (xW (aM rF hr rfl rG rH rJ .nil aP (aj (pV 2) aq)))))) (aG (bh jR)) aW) (au (cC (uq (dH (xW (aM iI hr rfl iJ k_whole iK .nil aP (aj (pV 3) aq)))) (pw_or1 (qt oLt (pV 3) aF (bB _)))) (aG (bh jR)) aW) (aG (bh (afp (iG Xp (pV 4) Nb (bB _)) (mL (qu (aM iI hr rfl iJ k_whole iK .nil aP (aj (pV 4) aq)) (mL (iG oGe (pV 4) (pV 3) (bB _)))))))))))),?_⟩
   refine ⟨x,d,4,rfl,hd,?_⟩
   have no:∀ d',Fq d' 4=false->jU d'=false:=fun d' h=>by
     cases d' with
     | tup xs =>
       match xs,h with
       | [],_=>rfl
       | [_],_=>rfl
       | [_,_],_=>rfl
       | [_,_,_],_=>rfl
       | [_,_,_,_],h=>cases h
       | _ :: _ :: _ :: _ :: _ :: _,_=>rfl
     | _=>rfl
   cases e:Fq d 4 with
   | false =>
     have z:=q H (Same.refl H)
     rw [no d e] at z
     exact z
   | true =>
     cases d with
     | tup xs =>
       refine cF fun oM bN=>?_
       obtain ⟨a,vs,afI,ha,l60,r⟩:=hd.abp
       subst bN
       subst afI
       refine cF fun oM bN=>?_
       obtain ⟨y1,y2,y3,y4,afJ⟩:=afD (of_decide_eq_true e)
       subst bN
       subst afJ
       refine cF fun oM bN=>?_
       obtain ⟨v1,v2,v3,v4,afK,h1,h2,h3,h4⟩:=r.four
       subst bN
       subst afK
       refine ⟨a,_,rfl,bW.of ha,rfl,_,_,rfl,_,_,rfl,_,_,rfl,_,_,rfl,rfl,?_⟩
       refine cF fun oM bN=>?_
       obtain ⟨th1,_,_,n1⟩:=h1.kind (K:=K)
       subst bN
       refine ⟨_,rfl,th1,fun H1 s1=>?_⟩
       rw [n1]
       have q:∀ H',Same H H'->Q (.bl (rA y1 && (rA y2 && (gQ y3 && (decide (1<=intD y3) && Ir (intD y3) y4))))) H':=q
       cases e1:rA y1 with
       | false=>rw [e1] at q; exact q H1 s1
       | true =>
         rw [e1,Bool.true_and] at q
         refine cF fun oM bN=>?_
         obtain ⟨th2,_,_,n2⟩:=(h2.same s1).kind (K:=K)
         subst bN
         refine ⟨_,rfl,th2,fun H2 s2=>?_⟩
         rw [n2]
         have S:=s1.trans s2
         cases e2:rA y2 with
         | false=>rw [e2] at q; exact q H2 S
         | true =>
           rw [e2,Bool.true_and] at q
           refine cF fun oM bN=>?_
           obtain ⟨th3,_,w3,_⟩:=(h3.same S).kind (K:=K)
           subst bN
           refine ⟨_,rfl,th3,?_⟩
           rw [w3]
           cases e3:gQ y3 with
           | false=>rw [e3] at q; exact q H2 S
           | true =>
             rw [e3,Bool.true_and] at q
             cases h3 with
             | int i3 =>
               refine fP (fun z=>?_) (fun z=>?_)
               . have z':decide (1<=intD (.int i3))=false:=decide_eq_false (by have:=of_decide_eq_true z; show ¬ (1:Int)<=i3; omega)
                 rw [z',Bool.false_and] at q
                 exact q H2 S
               . have z':decide (1<=intD (.int i3))=true:=decide_eq_true (by
                   have:¬ i3<1:=fun w=>z (decide_eq_true w)
                   show (1:Int)<=i3; omega)
                 rw [z',Bool.true_and] at q
                 refine ⟨rfl,?_⟩
                 refine cF fun oM bN=>?_
                 obtain ⟨Z8,_,w4,_⟩:=(h4.same S).kind (K:=K)
                 subst bN
                 cases h4 with
                 | non=>exact q H2 S
                 | int i4 =>
                   refine ⟨_,rfl,Z8,?_⟩
                   exact q H2 S
                 | bl b4=>exact ⟨_,rfl,Z8,q H2 S⟩
                 | str z4 hz4=>exact ⟨_,rfl,Z8,q H2 S⟩
                 | tup g1 g2 g3=>exact ⟨_,rfl,Z8,q H2 S⟩
                 | lst g1=>exact ⟨_,rfl,Z8,q H2 S⟩
                 | dic g1=>exact ⟨_,rfl,Z8,q H2 S⟩
             | _=>cases e3
     | _=>cases e
end
end jQ
namespace jQ
open PySem L2 fW
def offs (rs:List Row) (m:Str->Int):List Int:=rs.map fun r=>r.2-m r.1
def j6 (rs:List Row) (d:Int) (m:Str->Int):Bool:=decide (∀ a∈offs rs m,∀ b∈offs rs m,a-b<=d)
def FJ (h:aJ) (m:Str->Int) (r:Row):Bool:=decide (h.low<=r.2-m r.1) && decide (r.2-m r.1<=h.high)
def mF (m:Str->Int) (p:Str × Str):Bool:=decide (1<=m p.2-m p.1)
def vU (h:aJ) (m:Str->Int):Bool:=(oR h).all (FJ h m) && (((eE h).zip ((eE h).drop 1)).all (mF m) && h.runs.all fun r=>j6 r h.aQ m)
def pD (m:Str->Int):List Str->Bool
 | a :: b :: r=>mF m (a,b) && pD m (b :: r)
 | _=>true
theorem Jb (m:Str->Int):∀ l:List Str,(l.zip (l.drop 1)).all (mF m)=pD m l
 | []=>rfl
 | [_]=>rfl
 | a :: b :: r=>by
   have z:=Jb m (b :: r)
   show (mF m (a,b) && ((b :: r).zip r).all (mF m))=(mF m (a,b) && pD m (b :: r))
   rw [<- z]; rfl
theorem Dd (m:Str->Int):∀ (l:List Str) (n:Str),pD m (l++[n])=(pD m l && (match l.getLast? with | none=>true | some a=>mF m (a,n)))
 | [],n=>rfl
 | [a],n=>by simp [pD]
 | a :: b :: r,n=>by
   have z:=Dd m (b :: r) n
   show (mF m (a,b) && pD m ((b :: r)++[n]))=_
   rw [z,List.getLast?_cons_cons]
   show _=(mF m (a,b) && pD m (b :: r) && _)
   rw [Bool.and_assoc]
theorem lY {h:aJ} {m:Str->Int}:vU h m=true↔(∀ r∈oR h,FJ h m r=true)/\pD m (eE h)=true/\∀ r∈h.runs,j6 r h.aQ m=true:=by
 unfold vU
 rw [Bool.and_eq_true,Bool.and_eq_true,Jb,List.all_eq_true,List.all_eq_true]
def intOf:V->Int
 | .int i=>i
 | _=>0
def gq (kvs:List (Key × V)) (n:Str):Int:=match cj kvs (.inr n) with | some v=>intOf v | none=>0
theorem Uu {kvs:List (Key × V)} {n:Str} {i:Int} (h:cj kvs (.inr n)=some (.int i)):gq kvs n=i:=by unfold gq; rw [h]; rfl
theorem Df {kvs:List (Key × V)} {n x:Str} {i:Int}:gq (putK kvs (.inr n) (.int i)) x=if x=n then i else gq kvs x:=by
 unfold gq
 rw [u6]
 by_cases e:x=n
 . rw [if_pos e,if_pos (by rw [e])]; rfl
 . rw [if_neg e,if_neg (fun z=>e (Sum.inr.inj z))]
theorem KH {a b:List (Key × V)} {n:Str} {i:Int} (h:cj a (.inr n)=some (.int i)):gq (a++b) n=gq a n:=by
 unfold gq; rw [vO,h]; rfl
theorem KJ {a b:List (Key × V)} {n:Str} (h:cj a (.inr n)=none):gq (a++b) n=gq b n:=by
 unfold gq; rw [vO,h]; rfl
theorem vV {m m':Str->Int}:∀ {l:List Str},(∀ n∈l,m n=m' n)->pD m l=pD m' l
 | [],_=>rfl
 | [_],_=>rfl
 | a :: b :: r,h=>by
   show (mF m (a,b) && pD m (b :: r))=(mF m' (a,b) && pD m' (b :: r))
   rw [vV (l:=b :: r) fun n hn=>h n (List.mem_cons_of_mem _ hn)]
   unfold mF
   rw [h a List.mem_cons_self,h b (List.mem_cons_of_mem _ List.mem_cons_self)]
theorem Pr {m m':Str->Int} {rs:List Row} (h:∀ r∈rs,m r.1=m' r.1):offs rs m=offs rs m':=by
 unfold offs
 exact List.map_congr_left fun r hr=>by rw [h r hr]
theorem vW {m m':Str->Int} {rs:List Row} {d:Int} (h:∀ r∈rs,m r.1=m' r.1):j6 rs d m=j6 rs d m':=by
 unfold j6; rw [Pr h]
theorem zj {h:aJ} {m m':Str->Int} (e:∀ n∈eE h,m n=m' n):vU h m=vU h m':=by
 rw [Bool.eq_iff_iff,lY,lY,vV e]
 have er:∀ r∈oR h,m r.1=m' r.1:=fun r hr=>e _ (List.mem_map_of_mem hr)
 have ed:∀ r∈h.runs,j6 r h.aQ m=j6 r h.aQ m':=fun r hr=>vW fun q hq=>er q (List.mem_flatten.mpr ⟨r,hr,hq⟩)
 have e2:∀ r∈oR h,FJ h m r=FJ h m' r:=fun r hr=>by unfold FJ; rw [er r hr]
 exact ⟨fun ⟨a,b,c⟩=>⟨fun r hr=>(e2 r hr) ▸ a r hr,b,fun r hr=>(ed r hr) ▸ c r hr⟩,fun ⟨a,b,c⟩=>⟨fun r hr=>(e2 r hr).symm ▸ a r hr,b,fun r hr=>(ed r hr).symm ▸ c r hr⟩⟩
def Ej (low wide aQ off:Int) (M:Str->Int) (mo:Int) (runs:List (List Row)) (rs:List Row):Prop :=
 (∀ r∈runs.flatten++rs,low<=r.2-M r.1/\r.2-M r.1<=low+wide/\M r.1<=mo/\-20<=M r.1)/\pD M ((runs.flatten++rs).map Prod.fst)=true/\(∀ r∈runs,j6 r aQ M=true) /\
 ∀ r∈rs,r.2-M r.1=off∨(r.2-M r.1=off+1/\0<aQ/\off+1<=low+wide)
def Bf (low wide aQ off mo:Int) (rd:Int):Prop:=rd=mo+off∨(rd=mo+off+1/\0<aQ/\off+1<=low+wide)
section
variable {low wide aQ off mo:Int} {M:Str->Int} {runs:List (List Row)} {rs:List Row}
theorem Pu:Ej low wide aQ off M mo [] []:=⟨fun r hr=>by simp at hr,rfl,fun r hr=>by simp at hr,fun r hr=>by simp at hr⟩
theorem Jc {o:Int} (h:Ej low wide aQ off M mo runs []):Ej low wide aQ o M mo runs []:=⟨h.1,h.2.1,h.2.2.1,fun r hr=>by simp at hr⟩
theorem Dg {Dh:Int} (h:Ej low wide aQ off M mo runs rs) (l:mo<=Dh):Ej low wide aQ off M Dh runs rs:=⟨fun r hr=>by have:=h.1 r hr; omega,h.2⟩
theorem Px (h:Ej low wide aQ off M mo runs rs) (d0:0<=aQ):j6 rs aQ M=true:=by
 unfold j6 offs
 refine decide_eq_true fun a ha b hb=>?_
 obtain ⟨r,hr,rfl⟩:=List.mem_map.mp ha
 obtain ⟨q,hq,rfl⟩:=List.mem_map.mp hb
 have:=h.2.2.2 r hr
 have:=h.2.2.2 q hq
 omega
theorem Py {o:Int} (h:Ej low wide aQ off M mo runs rs) (d0:0<=aQ):Ej low wide aQ o M mo (runs++[rs]) []:=by
 have e:(runs++[rs]).flatten++[]=runs.flatten++rs:=by simp
 refine ⟨by rw [e]; exact h.1,by rw [e]; exact h.2.1,fun r hr=>?_,fun r hr=>by simp at hr⟩
 rcases List.mem_append.mp hr with z | z
 . exact h.2.2.1 r z
 . rw [List.mem_singleton.mp z]; exact Px h d0
theorem Yq {kvs:List (Key × V)} {n:Str} {rd Dh:Int} (h:Ej low wide aQ off (gq kvs) mo runs rs) (lt:mo+1<=Dh) (l20:-20<=Dh) (nn:n ∉ (runs.flatten++rs).map Prod.fst) (ok:Bf low wide aQ off Dh rd) (o0:low<=off) (o1:off<=low+wide):Ej low wide aQ off (gq (putK kvs (.inr n) (.int Dh))) Dh runs (rs++[(n,rd)]):=by
 have ne:∀ r∈runs.flatten++rs,gq (putK kvs (.inr n) (.int Dh)) r.1=gq kvs r.1:=fun r hr=>by
   rw [Df,if_neg fun z=>nn (List.mem_map.mpr ⟨r,hr,z⟩)]
 have nw:gq (putK kvs (.inr n) (.int Dh)) n=Dh:=by rw [Df,if_pos rfl]
 generalize gq (putK kvs (.inr n) (.int Dh))=M' at ne nw
 refine ⟨fun r hr=>?_,?_,fun r hr=>?_,fun r hr=>?_⟩
 . rw [<- List.append_assoc] at hr
   rcases List.mem_append.mp hr with z | z
   . have:=h.1 r z; rw [ne r z]; omega
   . rw [List.mem_singleton.mp z]; show low<=rd-M' n/\rd-M' n<=low+wide/\M' n<=Dh/\-20<=M' n; rw [nw]; unfold Bf at ok; omega
 . rw [<- List.append_assoc,List.map_append]
   show pD M' (_++[n])=true
   rw [Dd,vV (m':=gq kvs) (fun x hx=>by obtain ⟨r,hr,rfl⟩:=List.mem_map.mp hx; exact ne r hr),h.2.1,Bool.true_and]
   cases e:((runs.flatten++rs).map Prod.fst).getLast? with
   | none=>rfl
   | some a =>
     obtain ⟨r,hr,rfl⟩:=List.mem_map.mp (List.mem_of_getLast? e)
     have:=h.1 r hr
     show decide (1<=M' n-M' r.1)=true
     rw [nw,ne r hr]
     exact decide_eq_true (by omega)
 . rw [vW fun q hq=>ne q (List.mem_append_left _ (List.mem_flatten.mpr ⟨r,hr,hq⟩))]; exact h.2.2.1 r hr
 . rcases List.mem_append.mp hr with z | z
   . rw [ne r (List.mem_append_right _ z)]; exact h.2.2.2 r z
   . rw [List.mem_singleton.mp z]; show rd-M' n=off∨_; rw [nw]; unfold Bf at ok; omega
theorem Uv {r:Row} {d rd:Int} (h:Ej low wide aQ off M mo runs rs) (hr:r∈rs) (d0:0<=d) (ok:Bf low wide aQ off (mo+1+d) rd) (le:rd<=r.2):Bf low wide aQ off (mo+1+d) (r.2+1):=by
 have:=h.1 r (List.mem_append_right _ hr)
 have:=h.2.2.2 r hr
 unfold Bf at ok ⊢
 omega
theorem Uw (h:Ej low wide aQ off M mo runs []) (l0:-20<=low) (l1:low<=20) (w0:0<=wide) (w1:wide<=300) (m1:mo<=660):∀ r∈runs.flatten,-1000<=r.2/\r.2<=1000:=fun r hr=>by
 have:=h.1 r (List.mem_append_left _ hr)
 omega
theorem Yr {nm:Str} (h:Ej low wide aQ off M mo runs []):vU ⟨nm,low,low+wide,aQ,runs⟩ M=true:=by
 have e:runs.flatten++[]=runs.flatten:=by simp
 have h1:=h.1
 have h2:=h.2.1
 rw [e] at h1 h2
 refine lY.mpr ⟨fun r hr=>?_,h2,h.2.2.1⟩
 have:=h1 r hr
 unfold FJ
 rw [Bool.and_eq_true]
 exact ⟨decide_eq_true this.1,decide_eq_true this.2.1⟩
end
end jQ
namespace jQ
open PySem L2 fW
structure GoodW (h:aJ):Prop extends jq h where
 narrow:h.high-h.low<=300
 afL:-1000<=h.low
 abz:h.high<=1000
 near:∀ r∈oR h,-1000<=r.2/\r.2<=1000
 afM:h.aQ<=1000
 afN:h.runs.length<=3
def rK:Sp:=fun vs H Q _=>∃ (p:Addr) (nm:Str) (ln:Addr) (ss:List Str) (room:Int),vs=[.ref p,.str nm,.ref ln,.int room]/\bM H p/\Good nm/\H ln=some (.lst (ss.map V.str))/\ss.length<=12/\ss.Nodup/\(∀ s∈ss,Good s) /\
 ∀ (r d:Addr) (hv:V) (h:aJ) (kvs:List (Key × V)) (m:Nat) (H':Hp),H r=none->H d=none->H' r=some (.tup [hv,.ref d])->fY H' hv h->GoodW h->h.name=nm->eE h=ss.take m->m<=ss.length->((m:Int)<=room∨m=0) ->
   H' d=some (.dK kvs)->kvs.map (·.1)=(ss.take m).map Sum.inr->(∀ n∈ss.take m,∃ i:Int,cj kvs (.inr n)=some (.int i))->bM H' p->aZ p H H'->vU h (gq kvs)=true->Q (.ref r) H'
def Bg (mo:Int) (m i:Nat):Prop:=-20<=mo/\mo<=60+40 * (m:Int)+5 * (i:Int)
def PwA (p ln R D:Addr) (nm:Str) (room low wide aQ:Int) (H:Hp) (ss:List Str):Nat->St->Hp->Prop:=fun i σ H'=>∃ (mo:Int) (m:Nat) (vr:List V) (kvs:List (Key × V)) (runs:List (List Row)) (uw Pz PB FN Ek:Option V),σ=[some (.ref p),some (.str nm),some (.ref ln),some (.int room),some (.int low),some (.int wide),some (.int aQ),some (.int mo),some (.ref R),some (.ref D),some (.int (m:Int)),uw,Pz,PB,FN,Ek]/\HS H p R D ss room H' vr kvs runs m/\runs.flatten.map Prod.fst=ss.take m/\runs.length<=i/\Ej low wide aQ 0 (gq kvs) mo runs []/\Bg mo m i
def PwB (p ln R D L:Addr) (nm:Str) (room low wide aQ Fx:Int) (H:Hp) (ss:List Str) (i:Nat) (vr:List V) (runs:List (List Row)):Nat->St->Hp->Prop:=fun j σ gK=>∃ (mo:Int) (m:Nat) (kvs:List (Key × V)) (vl:List V) (rs:List Row) (FN Ek:Option V),σ=[some (.ref p),some (.str nm),some (.ref ln),some (.int room),some (.int low),some (.int wide),some (.int aQ),some (.int mo),some (.ref R),some (.ref D),some (.int (m:Int)),some (.int (0+(i:Int))),some (.int (low+Fx)),some (.ref L),FN,Ek]/\HS H p R D ss room gK vr kvs runs m/\gK L=some (.lst vl)/\Paired (fG gK) vl rs/\(runs.flatten++rs).map Prod.fst=ss.take m/\rs.length<=j/\(rs.map Prod.snd).Pairwise (·<·)/\Ej low wide aQ (low+Fx) (gq kvs) mo runs rs/\Bg mo m i
section
variable {P:Program} {w:World} {K:PySem.W.Frag} {mg:Str->Option Value} {base:Heap} {t8 t6 tR tL:Tok}
theorem bD:bf ["_law_pack_here","_law_name","_law_names_here","_law_room","_law_low","_law_wide","_law_drift","_law_moment","_law_runs","_law_hidden","_law_at","_law_turn","_law_off","_law_rows","_law_step","_law_reading"] ["_law_pack_here","_law_name","_law_names_here","_law_room"] (aD kO):=⟨rfl,rfl,rfl,by decide +kernel,rfl,by decide +kernel,by decide +kernel⟩
theorem FP {f cX:Addr} {fd dF:FuncData} (F:mK K "_law_house" "_law_house" kO f fd) (T:Txt mg t8 t6 tR tL)
   (cG:aO P w K mg base cg 1 cX dF ["_law_pack_here","_law_size"] mX) (cH:mg "_law_take" = some (.ref cX)) (cI:PySem.W.keepIn K (.ref cX)=true) (cJ:Binds K dF ["_law_pack_here","_law_size"] []):aO P w K mg base cg 2 f fd ["_law_pack_here","_law_name","_law_names_here","_law_room"] rK:=by
 refine F.ok bD (fun vs H Q E h=>?_) (fun cdv A outer s H vs Q E hr h=>?_)
 . obtain ⟨p,nm,ln,ss,room,rfl,_⟩:=h
   rfl
 . obtain ⟨p,nm,ln,ss,room,rfl,hp,gn,Ys,few,nd,gs,q⟩:=h
   have mC:sizeLine=16777216:=sizeLine_eq
   have nln:ln≠p:=fun z=>by
     obtain ⟨n,e,_⟩:=hp
     rw [z,e] at Ys
     cases ss with
     | nil=>cases Ys
     | cons s ss=>cases Ys
   refine ⟨_,(au (aR (i:=4) bD.nd rfl (Or.inl rfl) (bA N7 (aM cG hr rfl cH cI cJ .nil aP (aj (pV 0) (aj aF aq))) aF)) (au (aR (i:=5) bD.nd rfl (Or.inl rfl) (bI MJ (d8 (aj aF (aj aF (aj aF (aj aF aq))))) (aM cG hr rfl cH cI cJ .nil aP (aj (pV 0) (aj aF aq))) (fun _ _=>rfl))) (au (aR (i:=6) bD.nd rfl (Or.inl rfl) (bI MJ (d8 (aj aF (aj aF (aj aF (aj aF aq))))) (aM cG hr rfl cH cI cJ .nil aP (aj (pV 0) (aj aF aq))) (fun _ _=>rfl))) (au (aR (i:=7) bD.nd rfl (Or.inl rfl) (bA N7 (aM cG hr rfl cH cI cJ .nil aP (aj (pV 0) (aj aF aq))) aF)) (au (aR (i:=8) bD.nd rfl (Or.inl rfl) (d8 aq)) (au (aR (i:=9) bD.nd rfl (Or.inl rfl) jD) (au (aR (i:=10) bD.nd rfl (Or.inl rfl) aF) (au (fZ PassesOwn.never rfl (gA rfl T.range (aj (aM cG hr rfl cH cI cJ .nil aP (aj (pV 0) (aj aF aq))) aq)) (aL (i:=11) bD.nd rfl (Or.inl rfl)) (au (aR (i:=12) bD.nd rfl (Or.inl rfl) (bA iV (pV 4) (aM cG hr rfl cH cI cJ .nil aP (aj (pV 0) (aj (bA iV (pV 5) aF) aq))))) (au (aR (i:=13) bD.nd rfl (Or.inl rfl) (d8 aq)) (au (fZ PassesOwn.never rfl (gA rfl T.range (aj (bA iV aF (aM cG hr rfl cH cI cJ .nil aP (aj (pV 0) (aj aF aq)))) aq)) (aL (i:=14) bD.nd rfl (Or.inl rfl)) (aG (cC (tG (qt oLt (pV 10) (pV 3) (bB _)) (pw_and1 (qt oLt (pV 10) (aN bZ rfl T.len PySem.boot_len (aj (pV 2) aq)) (bB _)))) (au (aR (i:=7) bD.nd rfl (Or.inl rfl) (bA iV (bA iV (pV 7) aF) (aM cG hr rfl cH cI cJ .nil aP (aj (pV 0) (aj aF aq))))) (au (aR (i:=15) bD.nd rfl (Or.inl rfl) (bA iV (pV 7) (pV 12))) (au (cC (tG (qt (Fv hr.units) (pV 13) (d8 aq) (bB _)) (pw_and (qt oLe (bA iV (pV 12) aF) (bA iV (pV 4) (pV 5)) (bB _)) (pw_and (qt oEq (aM cG hr rfl cH cI cJ .nil aP (aj (pV 0) (aj aF aq))) aF (bB _)) (pw_and1 (qt oGt (pV 6) aF (bB _)))))) (aG (aR (i:=15) bD.nd rfl (Or.inl rfl) (bA iV (pV 15) aF))) aW) (au (cC (tG (qt (Fv hr.units) (pV 13) (d8 aq) (bB _)) (pw_and1 (qt oLe (pV 15) (bI fV (bI MJ (pV 13) (Wd aa9 aF) (fun _ _=>rfl)) aF (fun _ _=>rfl)) (bB _)))) (aG (aR (i:=15) bD.nd rfl (Or.inl rfl) (bA iV (bI fV (bI MJ (pV 13) (Wd aa9 aF) (fun _ _=>rfl)) aF (fun _ _=>rfl)) aF))) aW) (au (lQ (cU hr) (pV 9) (bI MJ (pV 2) (pV 10) (fun _ _=>rfl)) (pV 7) rfl) (au (fM (qm PySem.F.plainAttrs_list PySem.F.slot_list_append PySem.F.type_list_append gB (pV 13) (aj (bK (aj (bI MJ (pV 2) (pV 10) (fun _ _=>rfl)) (aj (pV 15) aq))) aq))) (aG (aR (i:=10) bD.nd rfl (Or.inl rfl) (bA iV (pV 10) aF))))))))) aW))) (au (cC (qt (Fv hr.units) (pV 13) (d8 aq) (bB _)) (aG (fM (qm PySem.F.plainAttrs_list PySem.F.slot_list_append PySem.F.type_list_append gB (pV 8) (aj (bJ bC rfl T.tuple PyProof.Rows.boot_tuple (aj (pV 13) aq)) aq)))) aW) (aG (aR (i:=7) bD.nd rfl (Or.inl rfl) (bA iV (pV 7) (aM cG hr rfl cH cI cJ .nil aP (aj (pV 0) (aj aF aq))))))))))) (aG (bh (bK (aj (bK (aj (pV 1) (aj (pV 4) (aj (bA iV (pV 4) (pV 5)) (aj (pV 6) (aj (bJ bC rfl T.tuple PyProof.Rows.boot_tuple (aj (pV 8) aq)) aq)))))) (aj (pV 9) aq))))))))))))),?_⟩
   refine gZ fun U1 hU1=>?_
   refine ⟨p,41,rfl,hp,by decide,by decide,fun d1 H1 d10 d11 hp1 s1=>?_⟩
   show U1 _ _
   subst hU1
   refine gZ fun U2 hU2=>?_
   refine ⟨by show 4<=sizeLine; omega,fun l1 hl1=>?_⟩
   refine ⟨p,4,rfl,hp1.new hl1,by decide,by decide,fun d2 H2 d2a d2b hp2 s2=>?_⟩
   have nl1:l1≠p:=fun z=>by obtain ⟨n,e,_⟩:=hp1; rw [<- z,hl1] at e; cases e
   obtain ⟨wide,ew,w0,w1⟩:=Wo (a:=0) (b:=3) (c:=40) (e:=300) d2a d2b (by decide) (by decide) (by decide) (by decide)
   refine vm (s2 l1 _ nl1 ao) ew ?_
   show U2 _ _
   subst hU2
   have S2:aZ p H H2:=((aZ.of (Same.refl H)).trans s1 |>.new hl1).trans s2
   refine gZ fun U3 hU3=>?_
   refine ⟨by show 4<=sizeLine; omega,fun l2 hl2=>?_⟩
   refine ⟨p,4,rfl,hp2.new hl2,by decide,by decide,fun d3 H3 d3a d3b hp3 s3=>?_⟩
   have nl2:l2≠p:=fun z=>by obtain ⟨n,e,_⟩:=hp2; rw [<- z,hl2] at e; cases e
   obtain ⟨aQ,ed,dr0,dr1⟩:=Wo (a:=0) (b:=1) (c:=2) (e:=9) d3a d3b (by decide) (by decide) (by decide) (by decide)
   refine vm (s3 l2 _ nl2 ao) ed ?_
   show U3 _ _
   subst hU3
   have S3:aZ p H H3:=(S2.new hl2).trans s3
   refine gZ fun U4 hU4=>?_
   refine ⟨p,60,rfl,hp3,by decide,by decide,fun d4 H4 d40 d41 hp4 s4=>?_⟩
   show U4 _ _
   subst hU4
   have S4:aZ p H H4:=S3.trans s4
   refine gZ fun U5 hU5=>?_
   refine ⟨Nat.zero_le _,fun R hR=>?_⟩
   show U5 _ _
   subst hU5
   have nR:R≠p:=fun z=>by obtain ⟨n,e,_⟩:=hp4; rw [<- z,hR] at e; cases e
   have fR:H R=none:=by
     cases e:H R with
     | none=>rfl
     | some o=>have:=S4 R o nR e; rw [hR] at this; cases this
   refine gZ fun U6 hU6=>?_
   refine fun D hD=>?_
   show U6 _ _
   subst hU6
   have Sw:=hp4.new (o:=.lst []) hR
   have S5:aZ p H (upd H4 R (.lst [])):=S4.new hR
   have nD:D≠p:=fun z=>by obtain ⟨n,e,_⟩:=Sw; rw [<- z,hD] at e; cases e
   have nRD:R≠D:=aH ao hD
   have fD:H D=none:=by
     cases e:H D with
     | none=>rfl
     | some o=>have:=S5 D o nD e; rw [hD] at this; cases this
   have nlD:ln≠D:=aH Ys fD
   refine ⟨p,4,rfl,Sw.new hD,by decide,by decide,fun n1 H6 n1a n1b hp6 s6=>?_⟩
   have S6:aZ p H H6:=(S5.new hD).trans s6
   obtain ⟨low,hlow⟩:∃ low,low=d1-20:=⟨_,rfl⟩
   refine ⟨n1,rfl,by omega,by omega,j9 (lo:=0) (n:=n1.toNat) (PwA p ln R D nm room low wide aQ H ss) ?_ (fun i σ H' hi afX=>?_) (fun σ H' afY=>?_)⟩
   . exact ⟨_,0,[],[],[],none,none,none,none,none,by subst hlow; rfl,⟨hp6,S6,s6 R _ nR (by rw [aB nRD]; exact ao),.nil,s6 D _ nD ao,rfl,fun n hn=>by simp at hn,Nat.zero_le _,.inr rfl,fun r hr=>by simp at hr⟩,rfl,Nat.zero_le _,Pu,by unfold Bg; omega⟩
   . refine cF fun oM bN=>?_
     obtain ⟨mo,m,vr,kvs,runs,uw,Pz,PB,FN,Ek,eσ,S,fl,rl,fe,mb⟩:=afX
     subst bN
     subst eσ
     refine ⟨p,wide+1,rfl,S.pack,by omega,by omega,fun Fx Ha aoH aoI hpa sa=>?_⟩
     have Sa:=S.step nR nD hpa sa
     refine ⟨Nat.zero_le _,fun L hL=>?_⟩
     have Sb:=Sa.new (o:=.lst []) nR nD hL
     have Wr:L≠p:=fun z=>by obtain ⟨n,e,_⟩:=Sa.pack; rw [<- z,hL] at e; cases e
     have Z7:L≠R:=fun z=>by rw [z,Sa.hR] at hL; cases hL
     have nLD:L≠D:=fun z=>by rw [z,Sa.hD] at hL; cases hL
     have fL:H L=none:=by
       cases e:H L with
       | none=>rfl
       | some o=>have:=Sa.same L o Wr e; rw [hL] at this; cases this
     refine ⟨p,3,rfl,Sb.pack,by decide,by decide,fun n2 Hc n2a n2b hpc sc=>?_⟩
     have Sc:=Sb.step nR nD hpc sc
     have hLc:Hc L=some (.lst []):=sc L _ Wr ao
     refine ⟨1+n2,rfl,by omega,by omega,j9 (lo:=0) (n:=(1+n2).toNat) (PwB p ln R D L nm room low wide aQ Fx H ss i vr runs) ?_ (fun j σ gK hj afZ=>?_) (fun σ gK af0=>?_)⟩
     . exact ⟨mo,m,kvs,[],[],_,_,rfl,Sc,hLc,.nil,by rw [List.append_nil]; exact fl,Nat.zero_le _,List.Pairwise.nil,Jc fe,mb⟩
     . refine cF fun oM bN=>?_
       obtain ⟨mo,m,kvs,vl,rs,FN,Ek,eσ,S,hL',pl,Ws,rl',Yt,fe,mb⟩:=afZ
       subst bN
       subst eσ
       have gr:∀ r∈rs,Good r.1:=fun r hr=>gs r.1 (by
         have z:r.1∈ss.take m:=by rw [<- Ws,List.map_append]; exact List.mem_append_right _ (List.mem_map_of_mem hr)
         exact List.mem_of_mem_take z)
       have skip:∃ (Dh:Int) (m':Nat) (kvs':List (Key × V)) (vl':List V) (rs':List Row) (af2 af3:Option V),([some (.ref p),some (.str nm),some (.ref ln),some (.int room),some (.int low),some (.int wide),some (.int aQ),some (.int mo),some (.ref R),some (.ref D),some (.int (m:Int)),some (.int (0+(i:Int))),some (.int (low+Fx)),some (.ref L),some (.int (0+(j:Int))),Ek]:St)=[some (.ref p),some (.str nm),some (.ref ln),some (.int room),some (.int low),some (.int wide),some (.int aQ),some (.int Dh),some (.ref R),some (.ref D),some (.int (m':Int)),some (.int (0+(i:Int))),some (.int (low+Fx)),some (.ref L),af2,af3] /\
         HS H p R D ss room gK vr kvs' runs m'/\gK L=some (.lst vl')/\Paired (fG gK) vl' rs'/\(runs.flatten++rs').map Prod.fst=ss.take m'/\rs'.length<=j+1/\(rs'.map Prod.snd).Pairwise (·<·)/\Ej low wide aQ (low+Fx) (gq kvs') Dh runs rs'/\Bg Dh m' i:=⟨mo,m,kvs,vl,rs,_,_,rfl,S,hL',pl,Ws,Nat.le_succ_of_le rl',Yt,fe,mb⟩
       refine fP (fun c1=>?_) (fun c1=>skip)
       refine ⟨ln,_,rfl,.inl (cT.of (S.same ln _ nln Ys)),?_⟩
       refine fP (fun c2=>?_) (fun c2=>skip)
       clear skip
       have hroom:(m:Int)<room:=of_decide_eq_true c1
       have hlen:m<ss.length:=by
         have z:(m:Int)<((ss.map V.str).length:Int):=of_decide_eq_true c2
         rw [List.length_map] at z; omega
       refine cF fun Rz1 PJ=>?_
       obtain ⟨n,hn⟩:∃ n,ss[m]?=some n:=⟨ss[m],List.getElem?_eq_getElem hlen⟩
       subst PJ
       refine gZ fun V1 hV1=>?_
       refine ⟨p,30,rfl,S.pack,by decide,by decide,fun d5 Hd d50 d51 hpd sd=>?_⟩
       show V1 _ _
       subst hV1
       refine gZ fun V2 hV2=>?_
       show V2 _ _
       subst hV2
       have Sd:=S.step nR nD hpd sd
       have hLd:Hd L=some (.lst vl):=sd L _ Wr hL'
       have pld:Paired (fG Hd) vl rs:=aA (fun _ _ z=>z.ts (aZ.tups S.pack sd)) pl
       refine Ip (NvR p ln R D L nm room low wide aQ Fx (mo+1+d5) m (.int (0+(i:Int))) (.int (0+(j:Int))) H ss vr vl kvs runs rs (Bf low wide aQ (low+Fx) (mo+1+d5))) (fun U hU=>?_) (fun σ2 H2 hN2=>?_)
       . have PK:∀ (rd:Int) (H9:Hp),Bf low wide aQ (low+Fx) (mo+1+d5) rd->HS H p R D ss room H9 vr kvs runs m->H9 L=some (.lst vl)->Paired (fG H9) vl rs->U [some (.ref p),some (.str nm),some (.ref ln),some (.int room),some (.int low),some (.int wide),some (.int aQ),some (.int (mo+1+d5)),some (.ref R),some (.ref D),some (.int (m:Int)),some (.int (0+(i:Int))),some (.int (low+Fx)),some (.ref L),some (.int (0+(j:Int))),some (.int rd)] H9:=fun rd H9 x0 x1 x2 x3=>hU _ _ ⟨rd,rfl,x1,x2,x3,x0⟩
         refine ⟨Nat.zero_le _,fun e1 Yu=>?_⟩
         have Se:=Sd.new (o:=.lst []) nR nD Yu
         have hLe:upd Hd e1 (.lst []) L=some (.lst vl):=(aB (aH hLd Yu)).trans hLd
         have Wt:Paired (fG (upd Hd e1 (.lst []))) vl rs:=aA (fun _ _ z=>z.ts ((bV.refl Hd).new Yu)) pld
         refine O1 hLe Wt gr ao ?_
         generalize (!rs.isEmpty)=bb
         cases bb with
         | false=>exact PK _ _ (.inl rfl) Se hLe Wt
         | true =>
           refine fP (fun k1=>?_) (fun k1=>PK _ _ (.inl rfl) Se hLe Wt)
           refine ⟨p,3,rfl,Se.pack,by decide,by decide,fun d6 Hh _ _ hph sh=>?_⟩
           have Sh:=Se.step nR nD hph sh
           have hLh:Hh L=some (.lst vl):=sh L _ Wr hLe
           have plh:Paired (fG Hh) vl rs:=aA (fun _ _ z=>z.ts (aZ.tups Se.pack sh)) Wt
           exact fP (fun k2=>fP (fun k3=>PK _ _ (.inr ⟨rfl,of_decide_eq_true k3,of_decide_eq_true k1⟩) Sh hLh plh) (fun k3=>PK _ _ (.inl rfl) Sh hLh plh)) (fun k2=>PK _ _ (.inl rfl) Sh hLh plh)
       refine cF fun Rz1 PJ=>?_
       obtain ⟨rd,aoP,Sx,hLx,plx,rok⟩:=hN2
       subst PJ
       subst aoP
       refine Ip (NvR p ln R D L nm room low wide aQ Fx (mo+1+d5) m (.int (0+(i:Int))) (.int (0+(j:Int))) H ss vr vl kvs runs rs (fun rd=>(∀ r∈rs,r.2<rd)/\Bf low wide aQ (low+Fx) (mo+1+d5) rd)) (fun U hU=>?_) (fun σ3 H3 hN3=>?_)
       . refine ⟨Nat.zero_le _,fun fa hfa=>?_⟩
         have Sga:=Sx.new (o:=.lst []) nR nD hfa
         have KN:upd H2 fa (.lst []) L=some (.lst vl):=(aB (aH hLx hfa)).trans hLx
         have PL:Paired (fG (upd H2 fa (.lst []))) vl rs:=aA (fun _ _ z=>z.ts ((bV.refl _).new hfa)) plx
         refine O1 KN PL gr ao ?_
         rcases List.eq_nil_or_concat rs with er | ⟨rs0,Yv,er⟩
         . subst er
           exact hU _ _ ⟨_,rfl,Sga,KN,PL,fun r hr=>by simp at hr,rok⟩
         . rw [List.concat_eq_append] at er
           have ne:(!rs.isEmpty)=true:=by rw [er]; simp
           rw [ne]
           have abC:∃ zm vL,vl=zm++[vL]/\∀ Hx,Paired (fG Hx) vl rs->fG Hx vL Yv:=by
             have hv:vl≠[]:=fun z=>by
               have:=pl.length
               rw [z,er] at this
               simp at this
             obtain ⟨zm,vL,ev⟩:=(List.eq_nil_or_concat vl).resolve_left hv
             rw [List.concat_eq_append] at ev
             refine ⟨zm,vL,ev,fun Hx px=>?_⟩
             have l1:=px.length
             rw [ev,er,List.length_append,List.length_append] at l1
             have e1:vl[zm.length]?=some vL:=by rw [ev]; simp
             obtain ⟨r,hr,ra⟩:=bw px e1
             have e2:rs[zm.length]?=some Yv:=by
               have:zm.length=rs0.length:=by simpa using l1
               rw [er,this]; simp
             rw [e2] at hr
             cases hr
             exact ra
           refine cF fun oM bN=>?_
           obtain ⟨zm,vL,evl,abD⟩:=abC
           obtain ⟨gaa,rfl,gba⟩:=abD _ PL
           subst bN
           have PN:∀ rd:Int,Yv.2<rd->∀ r∈rs,r.2<rd:=fun rd h r hr=>by
             rw [er] at hr Yt
             rcases List.mem_append.mp hr with z | z
             . rw [List.map_append] at Yt
               have:=(List.pairwise_append.mp Yt).2.2 r.2 (List.mem_map_of_mem z) Yv.2 (by simp)
               omega
             . rw [List.mem_singleton.mp z]; exact h
           refine vm KN (i:=-1) (v:=.ref gaa) (by rw [evl]; exact CT) ?_
           refine cP (bW.of gba) (i:=1) (v:=.int Yv.2) (by rfl) ?_
           refine fP (fun cc=>?_) (fun cc=>?_)
           . refine vm KN (i:=-1) (v:=.ref gaa) (by rw [evl]; exact CT) ?_
             refine cP (bW.of gba) (i:=1) (v:=.int Yv.2) (by rfl) ?_
             exact hU _ _ ⟨_,rfl,Sga,KN,PL,PN _ (by omega),Uv fe (by rw [er]; simp) d50 rok (of_decide_eq_true cc)⟩
           . have cc2:¬ rd<=Yv.2:=fun z=>cc (decide_eq_true z)
             exact hU _ _ ⟨_,rfl,Sga,KN,PL,PN _ (by omega),rok⟩
       refine cF fun Rz1 PJ=>?_
       obtain ⟨rd,aoT,Sy,hLy,ply,lt,rok⟩:=hN3
       subst PJ
       subst aoT
       refine vm (Sy.same ln _ nln Ys) (i:=(m:Int)) (v:=.str n) (lN (by rw [List.getElem?_map,hn]; rfl)) ?_
       refine ⟨D,_,rfl,qX.k (k:=Sum.inr n) Sy.hD (by have z:=congrArg List.length Sy.keys; rw [List.length_map,List.length_map,List.length_take] at z; omega),?_⟩
       have hLq:upd H3 D (.dK (putK kvs (.inr n) (.int (mo+1+d5)))) L=some (.lst vl):=(aB nLD).trans hLy
       refine ⟨.inl ⟨rfl,_,cT.of hLq⟩,?_⟩
       refine vm ((aB nlD).trans (Sy.same ln _ nln Ys)) (i:=(m:Int)) (v:=.str n) (lN (by rw [List.getElem?_map,hn]; rfl)) ?_
       refine ⟨by show 2<=sizeLine; omega,fun tp htp=>?_⟩
       obtain ⟨Sq,pq⟩:=HS.put (rd:=rd) Sy nR nD nRD Wr Z7 nLD fD fL nd hn hroom hLy ply htp
       refine ⟨L,vl,_,rfl,rfl,(aB (aH hLq htp)).trans hLq,by have z:=ply.length; omega,?_⟩
       exact ⟨_,m+1,_,_,rs++[(n,rd)],_,_,rfl,Sq,ao,pq,by rw [<- List.append_assoc,List.map_append,Ws,vK hn]; rfl,by rw [List.length_append]; exact Nat.add_le_add_right rl' 1,Ku Yt lt,Yq fe (by omega) (by unfold Bg at mb; omega) (fun z=>yV nd hn (Ws ▸ z)) rok (by omega) (by omega),by unfold Bg at mb ⊢; omega⟩
     . refine cF fun oM bN=>?_
       obtain ⟨mo,m,kvs,vl,rs,FN,Ek,eσ,S,hL',pl,Ws,rl',Yt,fe,mb⟩:=af0
       subst bN
       subst eσ
       have gr:∀ r∈rs,Good r.1:=fun r hr=>gs r.1 (by
         have z:r.1∈ss.take m:=by rw [<- Ws,List.map_append]; exact List.mem_append_right _ (List.mem_map_of_mem hr)
         exact List.mem_of_mem_take z)
       refine ⟨Nat.zero_le _,fun e1 Yu=>?_⟩
       have Se:=S.new (o:=.lst []) nR nD Yu
       have hLe:upd gK e1 (.lst []) L=some (.lst vl):=(aB (aH hL' Yu)).trans hL'
       have Wt:Paired (fG (upd gK e1 (.lst []))) vl rs:=aA (fun _ _ z=>z.ts ((bV.refl _).new Yu)) pl
       have lr:=Wt.length
       have lrr:=Se.pR.length
       refine O1 hLe Wt gr ao ?_
       refine fP (fun c1=>?_) (fun c1=>?_)
       . have rne:rs≠[]:=fun z=>by rw [z] at c1; cases c1
         refine ⟨.inl ⟨rfl,_,cT.of Se.hR⟩,?_⟩
         refine ⟨L,vl,rfl,.inl ⟨cT.of hLe,fun t9 ht9=>?_⟩⟩
         have St:=Se.new (o:=.tup vl) nR nD ht9
         refine ⟨R,vr,_,rfl,rfl,St.hR,by omega,?_⟩
         have tt:bV (upd (upd gK e1 (.lst [])) t9 (.tup vl)) (upd (upd (upd gK e1 (.lst [])) t9 (.tup vl)) R (.lst (vr++[.ref t9]))):=(bV.refl _).put St.hR (fun _ z=>nomatch z)
         have Su:HS H p R D ss room (upd (upd (upd gK e1 (.lst [])) t9 (.tup vl)) R (.lst (vr++[.ref t9]))) (vr++[.ref t9]) kvs (runs++[rs]) m:=by
           refine ⟨St.pack.put nR,fun b o hb e=>?_,ao,?_,(aB (Ne.symm nRD)).trans St.hD,St.keys,St.vals,St.le,St.rm,fun r hr=>?_⟩
           . rw [aB (aH e fR)]; exact St.same b o hb e
           . refine aY (aA (fun _ _ z=>z.ts tt) St.pR) (.cons ⟨t9,vl,rfl,tt _ _ ao,aA (fun _ _ z=>z.ts (((bV.refl _).new ht9).trans tt)) Wt⟩ .nil)
           . rcases List.mem_append.mp hr with z | z
             . exact St.good r z
             . rw [List.mem_singleton.mp z]
               exact ⟨rne,by omega,gr,Yt⟩
         refine ⟨p,5,rfl,Su.pack,by decide,by decide,fun d9 Hz d90 d91 hpz sz=>?_⟩
         exact ⟨_,m,_,kvs,runs++[rs],_,_,_,_,_,rfl,Su.step nR nD hpz sz,by rw [List.flatten_append]; simpa using Ws,by rw [List.length_append]; exact Nat.add_le_add_right rl 1,Dg (Py fe dr0) (by omega),by unfold Bg at mb ⊢; omega⟩
       . have rne:rs=[]:=by
           cases rs with
           | nil=>rfl
           | cons r rs=>exact absurd rfl c1
         subst rne
         refine ⟨p,5,rfl,Se.pack,by decide,by decide,fun d9 Hz d90 d91 hpz sz=>?_⟩
         exact ⟨_,m,_,kvs,runs,_,_,_,_,_,rfl,Se.step nR nD hpz sz,by simpa using Ws,Nat.le_succ_of_le rl,Dg (Jc fe) (by omega),by unfold Bg at mb ⊢; omega⟩
   . refine cF fun oM bN=>?_
     obtain ⟨mo,m,vr,kvs,runs,uw,Pz,PB,FN,Ek,eσ,S,fl,rl,fe,mb⟩:=afY
     subst bN
     subst eσ
     have lr:=S.pR.length
     refine ⟨R,vr,rfl,.inl ⟨cT.of S.hR,fun t1 h1=>?_⟩⟩
     have Sa:=S.new (o:=.tup vr) nR nD h1
     refine ⟨by show 5<=sizeLine; omega,fun t2 h2=>?_⟩
     have Sb:=Sa.new (o:=.tup [.str nm,.int low,.int (low+wide),.int aQ,.ref t1]) nR nD h2
     refine ⟨by show 2<=sizeLine; omega,fun t3 h3=>?_⟩
     have Sc:=Sb.new (o:=.tup [.ref t2,.ref D]) nR nD h3
     have nt3:t3≠p:=fun z=>by obtain ⟨n,e,_⟩:=Sb.pack; rw [<- z,h3] at e; cases e
     have ft3:H t3=none:=by
       cases e:H t3 with
       | none=>rfl
       | some o=>have:=Sb.same t3 o nt3 e; rw [h3] at this; cases this
     refine q t3 D (.ref t2) ⟨nm,low,low+wide,aQ,runs⟩ kvs m _ ft3 fD ao ⟨t2,.ref t1,rfl,(aB (aH ao h3)).trans ao,t1,vr,rfl,?_,Sc.pR⟩ ⟨⟨gn,by show low<=low+wide; omega,dr0,by show runs.length<=25; omega,Sc.good⟩,by show low+wide-low<=300; omega,by show -1000<=low; omega,by show low+wide<=1000; omega,Uw fe (by omega) (by omega) (by omega) (by omega) (by unfold Bg at mb; have:=Sc.le; omega),by show aQ<=1000; omega,by show runs.length<=3; omega⟩ rfl fl Sc.le Sc.rm Sc.hD Sc.keys Sc.vals Sc.pack Sc.same (Yr fe)
     have e1:upd (upd H' t1 (.tup vr)) t2 (.tup [.str nm,.int low,.int (low+wide),.int aQ,.ref t1]) t1=some (.tup vr):=(aB (aH ao h2)).trans ao
     exact (aB (aH e1 h3)).trans e1
end
end jQ
namespace jQ
open PySem L2 fW
def PX (B:Int) (l:Letter):Prop:=l.2.1<=B/\∀ m,l.2.2=some m->m<=B
def P0 (hs:List aJ) (M:Str->Int) (l:Letter):Prop:=ig hs l/\PX 4100 l
def vX (hs:List aJ) (M:Str->Int) (H:Hp) (kf:List (List Key × V)):Prop:=∀ kv∈kf,∃ l:Letter,kv.1=kP l.1/\bx H kv.2 l/\P0 hs M l
theorem vX.keys {hs:List aJ} {M:Str->Int} {H:Hp} {kf:List (List Key × V)} (h:vX hs M H kf):∃ ks:List (Str × Str),kf.map (·.1)=ks.map kP/\ks.length=kf.length :=
 uO.keys (hs:=hs) (H:=H) fun kv hkv=>let ⟨l,a,b,c⟩:=h kv hkv; ⟨l,a,b,c.1⟩
def lZ:Sp:=fun vs H Q _=>∃ (p lh dh:Addr) (vh:List V) (hs:List aJ) (kvs:List (Key × V)),vs=[.ref p,.ref lh,.ref dh]/\bM H p/\H lh=some (.lst vh)/\Paired (fY H) vh hs/\hs.length<=6/\(∀ h∈hs,jq h)/\(namesOf hs).Nodup/\(namesOf hs).length<=24 /\
 H dh=some (.dK kvs)/\kvs.map (·.1)=(namesOf hs).map Sum.inr/\(∀ n∈namesOf hs,∃ i:Int,cj kvs (.inr n)=some (.int i)/\-2000<=i/\i<=2000) /\
 ∀ (x:V) (ls:List Letter) (H':Hp),jo H' x ls->gF hs ls->(∀ l∈ls,PX 4100 l)->bM H' p->aZ p H H'->Q x H'
def PwF (p lh dh O l8 F:Addr) (hs:List aJ) (M:Str->Int) (H2:Hp):Nat->St->Hp->Prop:=fun i σ H'=>∃ (kf:List (List Key × V)) (o4 o5 o6 o7 xZ uw Pz PB FN Ek:Option V),σ=[some (.ref p),some (.ref lh),some (.ref dh),some (.ref O),o4,o5,o6,o7,some (.ref l8),some (.ref F),xZ,uw,Pz,PB,FN,Ek]/\bM H' p/\aZ p H2 H'/\H' F=some (.dT kf)/\kf.length<=i/\vX hs M H' kf
section
variable {P:Program} {w:World} {K:PySem.W.Frag} {mg:Str->Option Value} {base:Heap} {t8 t6 tR tL:Tok}
theorem bG:bf ["_law_pack_here","_law_houses","_law_hidden","_law_home","_law_house_here","_law_run","_law_name","_law_reading","_law_rows","_law_found","_law_turn","_law_one","_law_other","_law_gap","_law_slack","_law_most"] ["_law_pack_here","_law_houses","_law_hidden"] (aD gj):=⟨rfl,rfl,rfl,by decide +kernel,rfl,by decide +kernel,by decide +kernel⟩
theorem Bh {f cX:Addr} {fd dF:FuncData} (F:mK K "_law_letters" "_law_letters" gj f fd) (T:Txt mg t8 t6 tR tL)
   (cG:aO P w K mg base cg 1 cX dF ["_law_pack_here","_law_size"] mX) (cH:mg "_law_take" = some (.ref cX)) (cI:PySem.W.keepIn K (.ref cX)=true) (cJ:Binds K dF ["_law_pack_here","_law_size"] []):aO P w K mg base cg 2 f fd ["_law_pack_here","_law_houses","_law_hidden"] lZ:=by
 refine F.ok bG (fun vs H Q E h=>?_) (fun cdv A outer s H vs Q E hr h=>?_)
 . obtain ⟨p,lh,dh,vh,hs,kvs,rfl,_⟩:=h
   rfl
 . obtain ⟨p,lh,dh,vh,hs,kvs,rfl,hp,hlh,ph,h6,gh,nd,few,hdh,keys,vals,q⟩:=h
   have mC:sizeLine=16777216:=sizeLine_eq
   have nlh:lh≠p:=fun z=>by
     obtain ⟨n,e,_⟩:=hp
     rw [z,e] at hlh
     cases ph with
     | nil=>cases hlh
     | cons h _=>obtain ⟨a,b,rfl,_⟩:=h; cases hlh
   have ndh:dh≠p:=fun z=>by obtain ⟨n,e,_⟩:=hp; rw [z,e] at hdh; cases hdh
   refine ⟨_,(au (aR (i:=3) bG.nd rfl (Or.inl rfl) jD) (au (fZ PassesOwn.never rfl (eG (pV 1)) (aL (i:=4) bG.nd rfl (Or.inl rfl)) (aG (fZ PassesOwn.never rfl (jh (bI fV (pV 4) aF (fun _ _=>rfl))) (aL (i:=5) bG.nd rfl (Or.inl rfl)) (aG (fZ PassesOwn.never rfl (jh (pV 5)) (jg rfl (aU (aL (i:=6) bG.nd rfl (Or.inl rfl)) (aU (aL (i:=7) bG.nd rfl (Or.inl rfl)) fX))) (aG (lQ (cU hr) (pV 3) (pV 6) (bI fV (pV 4) aF (fun _ _=>rfl)) rfl))))))) (au (aR (i:=8) bG.nd rfl (Or.inl rfl) (aN (Ai rfl) rfl T.sorted PyProof.Rows.boot_sorted (aj (pV 2) aq))) (au (aR (i:=9) bG.nd rfl (Or.inr rfl) Cq) (au (fZ PassesOwn.never rfl (gA rfl T.range (aj (aM cG hr rfl cH cI cJ .nil aP (aj (pV 0) (aj aF aq))) aq)) (aL (i:=10) bG.nd rfl (Or.inl rfl)) (aG (cC (qt oGt (aN bZ rfl T.len PySem.boot_len (aj (pV 8) aq)) aF (bB _)) (au (aR (i:=11) bG.nd rfl (Or.inl rfl) (bI MJ (pV 8) (aM cG hr rfl cH cI cJ .nil aP (aj (pV 0) (aj (aN bZ rfl T.len PySem.boot_len (aj (pV 8) aq)) aq))) (fun _ _=>rfl))) (au (aR (i:=12) bG.nd rfl (Or.inl rfl) (bI MJ (pV 8) (aM cG hr rfl cH cI cJ .nil aP (aj (pV 0) (aj (aN bZ rfl T.len PySem.boot_len (aj (pV 8) aq)) aq))) (fun _ _=>rfl))) (au (aR (i:=13) bG.nd rfl (Or.inl rfl) (bA N7 (fO (cU hr) (pV 2) (pV 12) (fun _ _=>rfl)) (fO (cU hr) (pV 2) (pV 11) (fun _ _=>rfl)))) (au (aR (i:=14) bG.nd rfl (Or.inl rfl) (aM cG hr rfl cH cI cJ .nil aP (aj (pV 0) (aj aF aq)))) (aG (cC (tG (qt afH (fO (cU hr) (pV 3) (pV 11) (fun _ _=>rfl)) (fO (cU hr) (pV 3) (pV 12) (fun _ _=>rfl)) (bB _)) (pw_and1 (qt oGt (pV 13) aF (bB _)))) (au (aR (i:=15) bG.nd rfl (Or.inl rfl) (bI MJ (d8 (aj Nb (aj (pV 13) (aj (bA iV (pV 13) (pV 14)) aq)))) (aM cG hr rfl cH cI cJ .nil aP (aj (pV 0) (aj aF aq))) (fun _ _=>rfl))) (aG (lQ (cU hr) (pV 9) (bK (aj (pV 11) (aj (pV 12) aq))) (bK (aj (pV 11) (aj (pV 12) (aj (aN (yD rfl) rfl T.max PyProof.Rows.boot_max (aj aF (aj (bA N7 (pV 13) (pV 14)) aq))) (aj (pV 15) aq))))) rfl))) aW)))))) aW))) (aG (bh (bJ bC rfl T.tuple PyProof.Rows.boot_tuple (aj (cB (iH:=aD gj) (own:=["_law_pair"]) (cap:=["_law_found"]) (ix:=[9]) rfl rfl ⟨rfl,by decide +kernel,by decide +kernel,by decide +kernel,rfl,by decide +kernel⟩ (eG (aN (Aj rfl) rfl T.sorted PyProof.Rows.boot_sorted (aj (pV 9) aq))) (fun b=>(aL (i:=0) (show (["_law_pair","_law_found"]:List Str).Nodup by decide +kernel) rfl (Or.inl rfl))) (fun b=>cN) (fun b=>(fO (cU hr) (pV 1) (pV 0) (fun _ _=>rfl)))) aq))))))))),?_⟩
   refine fun O hO=>?_
   have s0:Same H (upd H O (.dK [])):=(Same.refl H).upd hO
   have af9:(pairsOf hs).length<=24:=by
     have z:=few
     rw [<- mW,List.length_map] at z
     exact z
   have ndP:((pairsOf hs).map Prod.fst).Nodup:=by rw [mW]; exact nd
   have abF:∀ (A:List (Str × Str)) (x:Str × Str) (B:List (Str × Str)) (kv:List (Key × V)),pairsOf hs=A++x :: B->oU kv A->kv.length<=A.length->oU (putK kv (.inr x.1) (.str x.2)) (A++[x])/\(putK kv (.inr x.1) (.str x.2)).length<=(A++[x]).length/\kv.length<sizeLine:=fun A x B kv e ow kl=>by
     have l1:=af9
     rw [e,List.length_append,List.length_cons] at l1
     refine ⟨oU.put ow fun y hy z=>?_,?_,by omega⟩
     . rw [e,List.map_append,List.map_cons] at ndP
       exact (List.nodup_append.mp ndP).2.2 y.1 (List.mem_map_of_mem hy) x.1 List.mem_cons_self z
     . have z:=gC kv (.inr x.1) (V.str x.2)
       rw [List.length_append]
       exact Nat.le_trans z (Nat.add_le_add_right kl 1)
   refine ⟨lh,rfl,⟨_,cT.of (s0 _ _ hlh)⟩,qd (xs:=vh) (PvC p lh dh O hs H) ⟨[],none,none,none,none,rfl,ao,fun x hx=>by simp [pairsOf] at hx,Nat.zero_le _,s0⟩ (fun i σ H' _ aga=>by obtain ⟨_,_,_,_,_,_,_,_,_,s⟩:=aga; exact cT.of (s _ _ hlh)) (fun i x σ H' hx agb=>?_) (fun σ H1 agc=>?_)⟩
   . refine cF fun oM bN=>?_
     obtain ⟨kv,o4,o5,o6,o7,eσ,eO,ow,kl,s⟩:=agb
     subst bN
     subst eσ
     obtain ⟨hh,hhi,ha⟩:=bw ph hx
     have gd:=gh hh (List.mem_of_getElem? hhi)
     refine cF fun oM bN=>?_
     obtain ⟨a,b,agd,ga,c,vr,agf,gc,pr⟩:=ha
     subst bN
     subst agd
     subst agf
     refine cP (bW.of (s _ _ ga)) (i:=4) (v:=.ref c) (by rfl) ?_
     have e0:pairsOf hs=pairsOf (hs.take i)++(mV hh++pairsOf (hs.drop (i+1))):=by
       unfold pairsOf
       have e1:hs=hs.take i++(hh :: hs.drop (i+1)):=by
         obtain ⟨li,fi⟩:=List.getElem?_eq_some_iff.mp hhi
         rw [<- fi,List.getElem_cons_drop,List.take_append_drop]
       conv=>lhs; rw [e1]
       rw [List.flatMap_append,List.flatMap_cons]
     refine ⟨c,rfl,⟨_,bW.of (s _ _ gc)⟩,uz (xs:=vr) (PvD p lh dh O a hs hh i H) ⟨kv,o5,o6,o7,rfl,eO,by simpa using ow,by simpa using kl,s⟩ (fun j σ H' _ agg=>by obtain ⟨_,_,_,_,_,_,_,_,s⟩:=agg; exact bW.of (s _ _ gc)) (fun j y σ H' hy agh=>?_) (fun σ H' agi=>?_)⟩
     . refine cF fun oM bN=>?_
       obtain ⟨kv,o5,o6,o7,eσ,eO,ow,kl,s⟩:=agh
       subst bN
       subst eσ
       refine cF fun oM bN=>?_
       obtain ⟨r,hr',c2,ws,agj,g2,pr2⟩:=bw pr hy
       subst bN
       subst agj
       have e1:mV hh=(hh.runs.take j).flatMap (cW hh.name)++(cW hh.name r++(hh.runs.drop (j+1)).flatMap (cW hh.name)):=by
         rw [tH]
         have e1:hh.runs=hh.runs.take j++(r :: hh.runs.drop (j+1)):=by
           obtain ⟨li,fi⟩:=List.getElem?_eq_some_iff.mp hr'
           rw [<- fi,List.getElem_cons_drop,List.take_append_drop]
         conv=>lhs; rw [e1]
         rw [List.flatMap_append,List.flatMap_cons]
       refine ⟨c2,rfl,⟨_,bW.of (s _ _ g2)⟩,uz (xs:=ws) (PvE p lh dh O a c2 hs hh i j r H) ⟨kv,o6,o7,rfl,eO,by simpa using ow,by simpa using kl,s⟩ (fun t σ H' _ agk=>by obtain ⟨_,_,_,_,_,_,_,s⟩:=agk; exact bW.of (s _ _ g2)) (fun t z σ H' hz agl=>?_) (fun σ H' agm=>?_)⟩
       . refine cF fun oM bN=>?_
         obtain ⟨kv,o6,o7,eσ,eO,ow,kl,s⟩:=agl
         subst bN
         subst eσ
         refine cF fun oM bN=>?_
         obtain ⟨rr,hrr,ra1,agn,ra2⟩:=bw pr2 hz
         subst bN
         subst agn
         have hp':(cW hh.name r)[t]?=some (rr.1,hh.name):=by unfold cW; rw [List.getElem?_map,hrr]; rfl
         refine ⟨ra1,_,rfl,bW.of (s _ _ ra2),rfl,_,_,rfl,_,_,rfl,rfl,?_⟩
         refine cP (bW.of (s _ _ ga)) (i:=0) (v:=.str hh.name) (by rfl) ?_
         have e2:cW hh.name r=(cW hh.name r).take t++((rr.1,hh.name) :: (cW hh.name r).drop (t+1)):=by
           obtain ⟨li,fi⟩:=List.getElem?_eq_some_iff.mp hp'
           rw [<- fi,List.getElem_cons_drop,List.take_append_drop]
         obtain ⟨w1,w2,w3⟩:=abF (pairsOf (hs.take i)++(hh.runs.take j).flatMap (cW hh.name)++(cW hh.name r).take t) (rr.1,hh.name) ((cW hh.name r).drop (t+1)++((hh.runs.drop (j+1)).flatMap (cW hh.name)++pairsOf (hs.drop (i+1)))) kv (by
           rw [e0,e1]
           conv=>lhs; rw [e2]
           simp only [List.append_assoc,List.cons_append]) ow kl
         refine ⟨O,_,rfl,qX.k (k:=Sum.inr rr.1) eO w3,?_⟩
         refine ⟨_,_,_,rfl,ao,?_,?_,fun b' o' e'=>by rw [aB (aH e' hO)]; exact s _ _ e'⟩
         . rw [List.take_add_one,hp',<- List.append_assoc]; exact w1
         . rw [List.take_add_one,hp',<- List.append_assoc]; exact w2
       . refine cF fun oM bN=>?_
         obtain ⟨kv,o6,o7,eσ,eO,ow,kl,s⟩:=agm
         subst bN
         subst eσ
         have l2:=pr2.length
         have e2:(cW hh.name r).take ws.length=cW hh.name r:=List.take_of_length_le (by unfold cW; rw [List.length_map]; omega)
         rw [e2] at ow kl
         refine ⟨kv,_,_,_,rfl,eO,?_,?_,s⟩
         . rw [List.take_add_one,hr',List.flatMap_append]; simpa using ow
         . rw [List.take_add_one,hr',List.flatMap_append]; simpa using kl
     . refine cF fun oM bN=>?_
       obtain ⟨kv,o5,o6,o7,eσ,eO,ow,kl,s⟩:=agi
       subst bN
       subst eσ
       rw [pr.length,List.take_length,<- tH] at ow kl
       have e2:pairsOf (hs.take (i+1))=pairsOf (hs.take i)++mV hh:=by
         unfold pairsOf
         rw [List.take_add_one,hhi,List.flatMap_append]
         simp
       exact ⟨kv,_,_,_,_,rfl,eO,by rw [e2]; exact ow,by rw [e2]; exact kl,s⟩
   . refine cF fun oM bN=>?_
     obtain ⟨kvo,o4,o5,o6,o7,eσ,eO,ow,kl,s1⟩:=agc
     subst bN
     subst eσ
     rw [ph.length,List.take_length] at ow kl
     -- Z9=sorted(hidden)
     refine ⟨dh,kvs,namesOf hs,rfl,s1 _ _ hdh,keys,by omega,fun l8 ss hl8 pm so=>?_⟩
     have s2:Same H1 (upd H1 l8 (.lst (ss.map V.str))):=(Same.refl H1).upd hl8
     generalize eH2:upd H1 l8 (.lst (ss.map V.str))=H2 at s2
     have h8:H2 l8=some (.lst (ss.map V.str)):=by rw [<- eH2]; exact ao
     have sH:Same H H2:=s1.trans s2
     have hp2:bM H2 p:=by obtain ⟨n,e,n0⟩:=hp; exact ⟨n,sH _ _ e,n0⟩
     refine fun F hF=>?_
     have nF:F≠p:=fun z=>by obtain ⟨n,e,_⟩:=hp2; rw [<- z,hF] at e; cases e
     have n8:l8≠p:=fun z=>by
       obtain ⟨n,e,_⟩:=hp2
       rw [<- z,h8] at e
       cases ss with
       | nil=>cases e
       | cons s ss=>cases e
     have nO:O≠p:=fun z=>by obtain ⟨n,e,_⟩:=hp2; rw [<- z,s2 _ _ eO] at e; cases e
     have lss:ss.length=(namesOf hs).length:=pm.length_eq
     have KQ:∀ x∈ss,x∈namesOf hs:=fun x hx=>pm.mem_iff.mp hx
     refine ⟨p,7,rfl,hp2.new hF,by decide,by decide,fun n7 H3 n7a n7b hp3 s3=>?_⟩
     have SB3:aZ p H2 H3:=((aZ.of (Same.refl H2)).new hF).trans s3
     refine ⟨n7,rfl,by omega,by omega,j9 (lo:=0) (n:=n7.toNat) (PwF p lh dh O l8 F hs (gq kvs) H2) ⟨[],_,_,_,_,_,_,_,_,_,_,rfl,hp3,SB3,s3 F _ nF ao,Nat.zero_le _,fun x hx=>by simp at hx⟩ (fun i σ H' hi ago=>?_) (fun σ H' agp=>?_)⟩
     . refine cF fun oM bN=>?_
       obtain ⟨kf,o4,o5,o6,o7,xZ,uw,Pz,PB,FN,Ek,eσ,pk,sb,eF,kl,fo⟩:=ago
       subst bN
       subst eσ
       refine ⟨l8,_,rfl,.inl (cT.of (sb l8 _ n8 h8)),?_⟩
       refine fP (fun c1=>?_) (fun c1=>⟨kf,_,_,_,_,_,_,_,_,_,_,rfl,pk,sb,eF,Nat.le_succ_of_le kl,fo⟩)
       have many:1<ss.length:=by
         have z:(1:Int)<((ss.map V.str).length:Int):=of_decide_eq_true c1
         rw [List.length_map] at z; omega
       have pick:∀ d:Int,0<=d->d<((ss.map V.str).length:Int)->∃ x,x∈ss/\yI (ss.map V.str) d=some (.str x):=fun d d0 d1=>by
         obtain ⟨n,rfl⟩:=Int.eq_ofNat_of_zero_le d0
         rw [List.length_map] at d1
         have hn:n<ss.length:=by omega
         exact ⟨ss[n],List.getElem_mem hn,lN (by rw [List.getElem?_map,List.getElem?_eq_getElem hn]; rfl)⟩
       have Ux:(0:Int)<((ss.map V.str).length:Int)/\((ss.map V.str).length:Int)<1073741824:=by rw [List.length_map]; omega
       refine gZ fun W1 hW1=>?_
       refine ⟨l8,_,rfl,.inl (cT.of (sb l8 _ n8 h8)),?_⟩
       refine ⟨p,_,rfl,pk,Ux.1,Ux.2,fun d1 Ha d1a d1b pka sa=>?_⟩
       have sba:=sb.trans sa
       obtain ⟨one,m1,e1⟩:=pick d1 d1a d1b
       refine vm (sba l8 _ n8 h8) e1 ?_
       show W1 _ _
       subst hW1
       refine gZ fun W2 hW2=>?_
       refine ⟨l8,_,rfl,.inl (cT.of (sba l8 _ n8 h8)),?_⟩
       refine ⟨p,_,rfl,pka,Ux.1,Ux.2,fun d2 Hb d2a d2b pkb MK=>?_⟩
       have sbb:=sba.trans MK
       obtain ⟨other,m2,e2⟩:=pick d2 d2a d2b
       refine vm (sbb l8 _ n8 h8) e2 ?_
       show W2 _ _
       subst hW2
       refine gZ fun W3 hW3=>?_
       obtain ⟨g2,eg2,b21,b22⟩:=vals other (KQ _ m2)
       obtain ⟨g1,eg1,b11,b12⟩:=vals one (KQ _ m1)
       have hdb:Hb dh=some (.dK kvs):=sbb dh _ ndh (sH _ _ hdh)
       refine ⟨dh,_,rfl,eg2 ▸ eU.k (k:=Sum.inr other) hdb,?_⟩
       refine ⟨dh,_,rfl,eg1 ▸ eU.k (k:=Sum.inr one) hdb,?_⟩
       show W3 _ _
       subst hW3
       refine gZ fun W4 hW4=>?_
       refine ⟨p,9,rfl,pkb,by decide,by decide,fun sk Hc sk0 sk1 pkc sc=>?_⟩
       show W4 _ _
       subst hW4
       have sbc:=sbb.trans sc
       have eFc:Hc F=some (.dT kf):=(sa.trans (MK.trans sc)) F _ nF eF
       have foc:vX hs (gq kvs) Hc kf:=fun kv hkv=>by
         refine cF fun oM bN=>?_
         obtain ⟨l,w1,w2,w3⟩:=fo kv hkv
         subst bN
         exact ⟨l,w1,w2.ts (aZ.tups pk (sa.trans (MK.trans sc))),w3⟩
       refine cF fun oM bN=>?_
       obtain ⟨hh1,q1,q2,q3⟩:=CW ow (KQ _ m1)
       subst bN
       refine cF fun oM bN=>?_
       obtain ⟨hh2,r1,r2,r3⟩:=CW ow (KQ _ m2)
       subst bN
       have hOc:Hc O=some (.dK kvo):=sbc O _ nO (s2 _ _ eO)
       refine ⟨O,_,rfl,q3 ▸ eU.k (k:=Sum.inr one) hOc,?_⟩
       refine ⟨O,_,rfl,r3 ▸ eU.k (k:=Sum.inr other) hOc,?_⟩
       have skip:∀ (σ:St),(∃ o4 o5 o6 o7 xZ uw Pz PB FN Ek:Option V,σ=[some (.ref p),some (.ref lh),some (.ref dh),some (.ref O),o4,o5,o6,o7,some (.ref l8),some (.ref F),xZ,uw,Pz,PB,FN,Ek])->∃ (kf:List (List Key × V)) (o4 o5 o6 o7 xZ uw Pz PB FN Ek:Option V),σ=[some (.ref p),some (.ref lh),some (.ref dh),some (.ref O),o4,o5,o6,o7,some (.ref l8),some (.ref F),xZ,uw,Pz,PB,FN,Ek]/\bM Hc p/\aZ p H2 Hc/\Hc F=some (.dT kf)/\kf.length<=i+1/\vX hs (gq kvs) Hc kf:=fun σ ⟨a4,a5,a6,a7,a10,a11,a12,a13,a14,a15,e⟩=>⟨kf,a4,a5,a6,a7,a10,a11,a12,a13,a14,a15,e,pkc,sbc,eFc,Nat.le_succ_of_le kl,foc⟩
       refine fP (fun c2=>?_) (fun c2=>skip _ ⟨_,_,_,_,_,_,_,_,_,_,rfl⟩)
       have hne:hh1.name≠hh2.name:=fun z=>by
         rw [decide_eq_true z] at c2
         cases c2
       refine fP (fun c3=>?_) (fun c3=>skip _ ⟨_,_,_,_,_,_,_,_,_,_,rfl⟩)
       have apd:0<g2-g1:=of_decide_eq_true c3
       refine gZ fun W5 hW5=>?_
       refine ⟨by show 3<=sizeLine; omega,fun l3 hl3=>?_⟩
       have nl3:l3≠p:=fun z=>by obtain ⟨n,e,_⟩:=pkc; rw [<- z,hl3] at e; cases e
       refine ⟨p,3,rfl,pkc.new hl3,by decide,by decide,fun d3 Hd d3a d3b pkd sd=>?_⟩
       have scd:aZ p Hc Hd:=((aZ.of (Same.refl Hc)).new hl3).trans sd
       obtain ⟨mo,emo,hmo⟩:∃ mo:Option Int,yI [V.non,.int (g2-g1),.int (g2-g1+sk)] d3=some (gD mo)/\∀ m,mo=some m->g2-g1<=m/\m<=4100:=by
         obtain ⟨n,rfl⟩:=Int.eq_ofNat_of_zero_le d3a
         match n,d3b with
         | 0,_=>exact ⟨none,rfl,fun m e=>nomatch e⟩
         | 1,_=>exact ⟨some (g2-g1),rfl,fun m e=>by cases e; omega⟩
         | 2,_=>exact ⟨some (g2-g1+sk),rfl,fun m e=>by cases e; omega⟩
         | n+3,h=>exact absurd h (by omega)
       refine vm (sd l3 _ nl3 ao) emo ?_
       show W5 _ _
       subst hW5
       refine ⟨1,g2-g1-sk,rfl,?_⟩
       obtain ⟨lst,agw,hl1,hl2⟩:∃ lst:Int,lst=(if g2-g1-sk > 1 then g2-g1-sk else 1)/\1<=lst/\lst<=g2-g1:=⟨_,rfl,by split <;> omega,by split <;> omega⟩
       rw [<- agw]
       refine ⟨by show 4<=sizeLine; omega,fun t1 ht1=>?_⟩
       refine ⟨by show 2<=sizeLine; omega,fun t2 ht2=>?_⟩
       have eFd:Hd F=some (.dT kf):=scd F _ nF eFc
       have eF1:upd Hd t1 (.tup [.str one,.str other,.int lst,gD mo]) F=some (.dT kf):=(aB (aH eFd ht1)).trans eFd
       have Yw:upd (upd Hd t1 (.tup [.str one,.str other,.int lst,gD mo])) t2 (.tup [.str one,.str other]) F=some (.dT kf):=(aB (aH eF1 ht2)).trans eF1
       refine ⟨F,_,rfl,qX.t (k:=kP (one,other)) Yw ao (by omega),?_⟩
       have tt:bV Hc (upd (upd (upd Hd t1 (.tup [.str one,.str other,.int lst,gD mo])) t2 (.tup [.str one,.str other])) F (.dT (putK kf (kP (one,other)) (.ref t1)))):=(((aZ.tups pkc scd).new ht1).new ht2).put Yw (fun _ z=>nomatch z)
       have et1:upd (upd (upd Hd t1 (.tup [.str one,.str other,.int lst,gD mo])) t2 (.tup [.str one,.str other])) F (.dT (putK kf (kP (one,other)) (.ref t1))) t1=some (.tup [.str one,.str other,.int lst,gD mo]):=by
         rw [aB (aH eFd ht1).symm,aB (aH ao ht2)]; exact ao
       refine ⟨_,_,_,_,_,_,_,_,_,_,_,rfl,((pkd.new ht1).new ht2).put nF,fun b o hb e=>?_,ao,?_,fun kv hkv=>?_⟩
       . have z1:=(sbc.trans scd) b o hb e
         rw [aB (aH e hF)]
         exact (((aZ.of (Same.refl Hd)).new ht1).new ht2) b o hb z1
       . exact Nat.le_trans (gC kf (kP (one,other)) (.ref t1)) (Nat.add_le_add_right kl 1)
       . rcases O2 hkv with z | z
         . subst z
           exact ⟨((one,other),lst,mo),rfl,⟨t1,rfl,et1⟩,⟨vM gh (KQ _ m1),vM gh (KQ _ m2),hl1,fun m e=>by have:=(hmo m e).1; show lst<=m; omega,hh1,q1,hh2,r1,q2,r2,hne⟩,⟨by show lst<=4100; omega,fun m e=>(hmo m e).2⟩⟩
         . refine cF fun oM bN=>?_
           obtain ⟨l,w1,w2,w3⟩:=foc kv z
           subst bN
           exact ⟨l,w1,w2.ts tt,w3⟩
     . refine cF fun oM bN=>?_
       obtain ⟨kf,o4,o5,o6,o7,xZ,uw,Pz,PB,FN,Ek,eσ,pk,sb,eF,kl,fo⟩:=agp
       subst bN
       subst eσ
       obtain ⟨ks,ek,lk⟩:=fo.keys
       refine ⟨F,kf,ks,rfl,eF,ek,by omega,fun l9 as ks' hl9 pm' pw la ha=>?_⟩
       have lks:ks'.length=ks.length:=pm'.length_eq
       have s9:Same H' (upd H' l9 (.lst (as.map V.ref))):=(Same.refl H').upd hl9
       generalize eH9:upd H' l9 (.lst (as.map V.ref))=H9 at s9
       have h9:H9 l9=some (.lst (as.map V.ref)):=by rw [<- eH9]; exact ao
       refine ⟨l9,rfl,⟨_,cT.of h9⟩,fun D hD=>yO (xs:=as.map V.ref) (fun i gK=>∃ (zs:List V) (ls:List Letter),dU H9 gK D zs/\Paired (bx H9) zs ls/\ls.map Prod.fst=ks'.take i/\∀ l∈ls,P0 hs (gq kvs) l) ⟨[],[],dU.start hD,.nil,rfl,fun l hl=>by simp at hl⟩ (fun i gK _ agz=>by obtain ⟨_,_,G,_⟩:=agz; exact cT.of (G.same _ _ h9)) (fun gK agA=>?_) (fun i x gK hx hi agB b=>?_)⟩
       . refine cF fun oM bN=>?_
         obtain ⟨zs,ls,G,pz,el,gl⟩:=agA
         subst bN
         have lx:ks'.take (as.map V.ref).length=ks':=List.take_of_length_le (by rw [List.length_map]; omega)
         rw [lx] at el
         have l1:=congrArg List.length el
         rw [List.length_map] at l1
         have l2:=pz.length
         refine ⟨D,zs,rfl,.inl ⟨cT.of G.at',fun t ht=>?_⟩⟩
         refine q (.ref t) ls _ ⟨t,zs,rfl,ao,aA (fun _ _ z=>z.ts (G.same.tups.new ht)) pz⟩ ⟨by omega,fun l hl=>(gl l hl).1,by rw [el]; exact pw⟩ (fun l hl=>(gl l hl).2) ?_ ?_
         . obtain ⟨n,e,n0⟩:=pk
           exact (show bM gK p from ⟨n,G.same _ _ (s9 _ _ e),n0⟩).new ht
         . exact (((aZ.of sH).trans (sb.trans (aZ.of (s9.trans G.same)))).new ht)
       . refine cF fun oM bN=>?_
         obtain ⟨zs,ls,G,pz,el,gl⟩:=agB
         subst bN
         rw [List.getElem?_map] at hx
         obtain ⟨a,ea,rfl⟩:∃ a,as[i]?=some a/\x=V.ref a:=by
           cases e:as[i]? with
           | none=>rw [e] at hx; cases hx
           | some a=>rw [e] at hx; exact ⟨a,rfl,(Option.some.inj hx).symm⟩
         have li:i<ks'.length:=by rw [List.length_map] at hi; omega
         have eki:ks'[i]?=some ks'[i]:=List.getElem?_eq_getElem li
         have hka:H' a=some (.tup ((kP ks'[i]).map kV)):=ha i a _ ea eki
         have mk:kP ks'[i]∈kf.map (·.1):=by
           rw [ek]
           exact List.mem_map_of_mem (pm'.mem_iff.mp (List.getElem_mem li))
         obtain ⟨v,ev,mv⟩:=O4 mk
         refine cF fun oM bN=>?_
         obtain ⟨l,w1,w2,w3⟩:=fo _ mv
         subst bN
         have el1:l.1=ks'[i]:=(vD w1).symm
         have sg:Same H' gK:=s9.trans G.same
         refine ⟨F,v,rfl,ev ▸ eU.t (k:=kP ks'[i]) (sg _ _ eF) (sg _ _ hka),?_⟩
         have l2:=pz.length
         have l1:=congrArg List.length el
         rw [List.length_map,List.length_take] at l1
         refine ⟨zs,G.at',by omega,nx hi ⟨zs++[v],ls++[l],G.put hD v,aY pz (.cons (w2.ts s9.tups) .nil),?_,fun l' hl'=>?_⟩⟩
         . rw [List.map_append,el,List.take_add_one,eki]
           show _++[l.1]=_++[ks'[i]]
           rw [el1]
         . rcases List.mem_append.mp hl' with z | z
           . exact gl l' z
           . rw [List.mem_singleton.mp z]; exact w3
end
end jQ
namespace jQ
open PySem L2 fW
def pF (K:PySem.W.Frag):Sp:=fun vs H Q _=>∃ (a:Addr) (ns:List Int) (k:Int),vs=[.ref a,.int k]/\cT K H a (ns.map V.int)/\(∀ n∈ns,Ov n)/\ns.length<=63/\0<=k/\k<=100/\∀ (x:V) (hs:List aJ) (ls:List Letter) (H':Hp),dD H' x hs ls->bL hs->gF hs ls->(∀ z∈hs.map aJ.name,z∈O5)->(∀ h∈hs,GoodW h)->(∀ l∈ls,PX 4100 l)->Same H H'->Q x H'
def PvG (a hd ln lh dh:Addr) (k d4:Int) (ss:List Str) (H3:Hp):Nat->St->Hp->Prop:=fun i σ H'=>∃ (vh:List V) (hs:List aJ) (kvs:List (Key × V)) (m:Nat) (o8 o9 xZ uw:Option V),σ=[some (.ref a),some (.int k),some (.ref hd),some (.ref ln),some (.int (1+d4)),some (.ref lh),some (.ref dh),some (.int (10-(m:Int))),o8,o9,xZ,uw]/\H' lh=some (.lst vh)/\Paired (fY H') vh hs/\H' dh=some (.dK kvs)/\kvs.map (·.1)=(namesOf hs).map Sum.inr/\(∀ n∈namesOf hs,∃ i:Int,cj kvs (.inr n)=some (.int i))/\namesOf hs=ss.take m/\m<=10/\hs.length=i/\hs.map aJ.name=O5.take i/\(∀ h∈hs,GoodW h)/\(∀ h∈hs,vU h (gq kvs)=true)/\Same H3 H'
section
variable {P:Program} {w:World} {K:PySem.W.Frag} {mg:Str->Option Value} {base:Heap} {t8 t6 tR tL:Tok}
theorem cu:bf ["_law_script","_law_k","_law_head","_law_names_here","_law_amount","_law_houses","_law_hidden","_law_room","_law_j","_law_rest","_law_house_here","_law_more"] ["_law_script","_law_k"] (aD jr):=⟨rfl,rfl,rfl,by decide +kernel,rfl,by decide +kernel,by decide +kernel⟩
theorem Di {f pG Bj cX rM m9:Addr} {fd qC Dj dF vY qD:FuncData} (F:mK K "_law_ledger" "_law_ledger" jr f fd) (T:Txt mg t8 t6 tR tL)
   (vZ:aO P w K mg base cg 2 pG qC ["_law_script","_law_k"] (Aq K)) (v8:mg "_law_pack" = some (.ref pG)) (v9:PySem.W.keepIn K (.ref pG)=true) (wg:Binds K qC ["_law_script","_law_k"] [])
   (Uy:aO P w K mg base cg 2 Bj Dj ["_law_pack_here","_law_amount"] Aw) (Uz:mg "_law_names" = some (.ref Bj)) (UG:PySem.W.keepIn K (.ref Bj)=true) (UJ:Binds K Dj ["_law_pack_here","_law_amount"] [])
   (cG:aO P w K mg base cg 2 cX dF ["_law_pack_here","_law_size"] mX) (cH:mg "_law_take" = some (.ref cX)) (cI:PySem.W.keepIn K (.ref cX)=true) (cJ:Binds K dF ["_law_pack_here","_law_size"] [])
   (KR:aO P w K mg base cg 2 rM vY ["_law_pack_here","_law_name","_law_names_here","_law_room"] rK) (KY:mg "_law_house" = some (.ref rM)) (KZ:PySem.W.keepIn K (.ref rM)=true) (K3:Binds K vY ["_law_pack_here","_law_name","_law_names_here","_law_room"] [])
   (Dk:aO P w K mg base cg 2 m9 qD ["_law_pack_here","_law_houses","_law_hidden"] lZ) (Dl:mg "_law_letters" = some (.ref m9)) (Dm:PySem.W.keepIn K (.ref m9)=true) (Dn:Binds K qD ["_law_pack_here","_law_houses","_law_hidden"] []):aO P w K mg base cg 3 f fd ["_law_script","_law_k"] (pF K):=by
 refine F.ok cu (fun vs H Q E h=>?_) (fun cdv A outer s H vs Q E hr h=>?_)
 . obtain ⟨a,ns,k,rfl,_⟩:=h
   rfl
 . obtain ⟨a,ns,k,rfl,ha,hb,hl,k0,k1,q⟩:=h
   have mC:sizeLine=16777216:=sizeLine_eq
   refine ⟨_,(au (aR (i:=2) cu.nd rfl (Or.inl rfl) (aM vZ hr rfl v8 v9 wg .nil aP (aj (pV 0) (aj (pV 1) aq)))) (au (aR (i:=3) cu.nd rfl (Or.inl rfl) (aM Uy hr rfl Uz UG UJ .nil aP (aj (pV 2) (aj aF aq)))) (au (aR (i:=4) cu.nd rfl (Or.inl rfl) (bA iV aF (aM cG hr rfl cH cI cJ .nil aP (aj (pV 2) (aj aF aq))))) (au (aR (i:=5) cu.nd rfl (Or.inl rfl) (d8 aq)) (au (aR (i:=6) cu.nd rfl (Or.inl rfl) jD) (au (aR (i:=7) cu.nd rfl (Or.inl rfl) aF) (au (fZ PassesOwn.never rfl (gA rfl T.range (aj (pV 4) aq)) (aL (i:=8) cu.nd rfl (Or.inl rfl)) (au (aR (i:=9) cu.nd rfl (Or.inl rfl) (iT Tv (pV 3) (Og (aN qY rfl T.len PySem.boot_len (aj (pV 6) aq))) (Og aF))) (au (uV (aM KR hr rfl KY KZ K3 .nil aP (aj (aM vZ hr rfl v8 v9 wg .nil aP (aj (pV 0) (aj (bA iV (bA iV (pV 1) aF) (pV 8)) aq))) (aj (bI MJ (d8 (aj jC (aj jC (aj jC (aj jC aq))))) (pV 8) (fun _ _=>rfl)) (aj (pV 9) (aj (pV 7) aq))))) (jg rfl (aU (aL (i:=10) cu.nd rfl (Or.inl rfl)) (aU (aL (i:=11) cu.nd rfl (Or.inl rfl)) fX)))) (au (fM (qm PySem.F.plainAttrs_list PySem.F.slot_list_append PySem.F.type_list_append gB (pV 5) (aj (pV 10) aq))) (au (fM (qm PySem.F.plainAttrs_dict PySem.F.slot_dict_update PySem.F.type_dict_update Kl (pV 6) (aj (pV 11) aq))) (aG (aR (i:=7) cu.nd rfl (Or.inl rfl) (bA N7 aF (aN qY rfl T.len PySem.boot_len (aj (pV 6) aq)))))))))) (aG (bh (bK (aj (bJ bC rfl T.tuple PyProof.Rows.boot_tuple (aj (pV 5) aq)) (aj (aM Dk hr rfl Dl Dm Dn .nil aP (aj (aM vZ hr rfl v8 v9 wg .nil aP (aj (pV 0) (aj (bA iV (pV 1) aF) aq))) (aj (pV 5) (aj (pV 6) aq)))) aq)))))))))))),?_⟩
   refine gZ fun U1 hU1=>?_
   refine ⟨a,ns,k,rfl,ha,hb,hl,k0,by omega,fun hd H1 fhd Wq s1=>?_⟩
   show U1 _ _
   subst hU1
   refine gZ fun U2 hU2=>?_
   refine ⟨hd,rfl,Wq,fun ln ss H2 fln eln l12 nd gs nq pk2 MK=>?_⟩
   show U2 _ _
   subst hU2
   have S2:Same H H2:=mY s1 fhd MK
   refine gZ fun U3 hU3=>?_
   refine ⟨hd,4,rfl,pk2,by decide,by decide,fun d4 H3 d4a d4b pk3 sb3=>?_⟩
   show U3 _ _
   subst hU3
   have S3:Same H H3:=mY S2 fhd sb3
   have agD:ln≠hd:=fun z=>by obtain ⟨n,e,_⟩:=Wq; rw [<- z,fln] at e; cases e
   have abH:H3 ln=some (.lst (ss.map V.str)):=sb3 ln _ agD eln
   refine gZ fun U4 hU4=>?_
   refine ⟨Nat.zero_le _,fun lh flh=>?_⟩
   show U4 _ _
   subst hU4
   refine gZ fun U5 hU5=>?_
   refine fun dh fdh=>?_
   show U5 _ _
   subst hU5
   have S4:Same H3 (upd (upd H3 lh (.lst [])) dh (.dK [])):=((Same.refl H3).upd flh).upd fdh
   have nld:lh≠dh:=aH ao fdh
   have apn:=S4 _ _ abH
   have Wu:ss.length=12:=l12
   refine ⟨1+d4,rfl,by omega,by omega,j9 (lo:=0) (n:=(1+d4).toNat) (PvG a hd ln lh dh k d4 ss H3) ⟨[],[],[],0,none,none,none,none,rfl,(aB nld).trans ao,.nil,ao,rfl,fun n hn=>by simp [namesOf] at hn,rfl,by decide,rfl,rfl,fun h hh=>by simp at hh,fun h hh=>by simp at hh,S4⟩ (fun i σ H' hi agF=>?_) (fun σ H' agG=>?_)⟩
   . refine cF fun oM bN=>?_
     obtain ⟨vh,hs,kvs,m,o8,o9,xZ,uw,eσ,elh,ph,edh,keys,vals,nms,m10,lhs,hnm,gh,kh,S⟩:=agF
     subst bN
     subst eσ
     have i4:i<4:=by omega
     have yc:kvs.length=m:=by
       have z:=congrArg List.length keys
       rw [List.length_map,List.length_map,nms,List.length_take] at z
       omega
     have SH:Same H H':=S3.trans S
     refine ⟨dh,kvs,rfl,edh,?_⟩
     refine ⟨ln,_,rfl,cT.of (S _ _ abH),fun lr flr=>?_⟩
     have agH:xT (ss.map V.str) (some (kvs.length:Int)) (some 10)=((ss.take 10).drop m).map V.str:=by
       unfold xT
       rw [show (some 10:Option Int)=some ((10:Nat):Int) from rfl,HT.nC,HT.nC,List.length_map,l12,yc,Nat.min_eq_left (show m<=12 by omega),Nat.min_eq_left (show 10<=12 by decide),<- List.map_drop,<- List.map_take,List.drop_take]
     rw [agH]
     have s5:Same H' (upd H' lr (.lst (((ss.take 10).drop m).map V.str))):=(Same.refl H').upd flr
     generalize eH5:upd H' lr (.lst (((ss.take 10).drop m).map V.str))=H5 at s5
     have elr:H5 lr=some (.lst (((ss.take 10).drop m).map V.str)):=by rw [<- eH5]; exact ao
     have SH5:Same H H5:=SH.trans s5
     refine ⟨a,ns,k+1+(0+(i:Int)),rfl,qy SH5 ha,hb,hl,by omega,by omega,fun p H6 fp pk6 s6=>?_⟩
     refine ⟨by show 4<=sizeLine; omega,fun l4 fl4=>?_⟩
     obtain ⟨nm,enm⟩:∃ nm,O5[i]?=some nm:=⟨O5[i],List.getElem?_eq_getElem (show i<4 from i4)⟩
     have eat:yI (O5.map V.str) (0+(i:Int))=some (.str nm):=by
       rw [Int.zero_add]
       exact lN (by rw [List.getElem?_map,enm]; rfl)
     refine vm (xs:=O5.map V.str) ao eat ?_
     have gnm:Good nm:=Uj nm (List.mem_of_getElem? enm)
     have s7:Same H5 (upd H6 l4 (.lst (O5.map V.str))):=s6.upd fl4
     have pk7:bM (upd H6 l4 (.lst (O5.map V.str))) p:=pk6.new fl4
     have ssl:((ss.take 10).drop m).length=10-m:=by rw [List.length_drop,List.length_take]; omega
     have sub:((ss.take 10).drop m).Sublist ss:=(List.drop_sublist _ _).trans (List.take_sublist _ _)
     refine ⟨p,nm,lr,(ss.take 10).drop m,10-(m:Int),rfl,pk7,gnm,s7 _ _ elr,by omega,sub.nodup nd,fun s hs'=>gs s (sub.subset hs'),fun r d hv hh kv m' H8 fr fd er hat ghh ehn FQ le rm ed Jd vals2 pk8 sb8 kph=>?_⟩
     have fp5:H5 p=none:=fp
     have S8:Same H5 H8:=mY s7 fp5 sb8
     refine ⟨r,_,rfl,bW.of er,rfl,_,_,rfl,_,_,rfl,rfl,?_⟩
     have Qa:H8 lh=some (.lst vh):=S8 _ _ (s5 _ _ elh)
     have Yx:H8 dh=some (.dK kvs):=S8 _ _ (s5 _ _ edh)
     refine ⟨.inl ⟨rfl,_,cT.of Qa⟩,?_⟩
     have lv:=ph.length
     refine ⟨lh,vh,_,rfl,rfl,Qa,by omega,?_⟩
     have ndd:dh≠d:=fun z=>by
       rw [<- z] at fd
       have w:=(s7 _ _ (s5 _ _ edh))
       cases (fd.symm.trans w)
     have Wv:dh≠lh:=fun z=>by rw [z,Qa] at Yx; cases Yx
     have agL:d≠lh:=fun z=>by rw [z,Qa] at ed; cases ed
     have Yy:upd H8 lh (.lst (vh++[hv])) dh=some (.dK kvs):=(aB Wv).trans Yx
     have ed9:upd H8 lh (.lst (vh++[hv])) d=some (.dK kv):=(aB agL).trans ed
     have agM:kv.length=m':=by
       have z:=congrArg List.length Jd
       rw [List.length_map,List.length_map,List.length_take] at z
       omega
     refine ⟨.inr (.inr (.inl ⟨rfl,.inl ⟨_,Yy⟩⟩)),?_⟩
     refine ⟨dh,d,kvs,kv,rfl,rfl,ndd,Yy,ed9,by omega,?_⟩
     have mm:m+m'<=10:=by omega
     have e10:namesOf (hs++[hh])=ss.take (m+m'):=by
       have z:namesOf (hs++[hh])=namesOf hs++eE hh:=by unfold namesOf; rw [List.flatMap_append]; simp
       rw [z,nms,FQ,List.drop_take,List.take_take,List.take_add,Nat.min_eq_left (by omega)]
     have ndk:(ss.take (m+m')).Nodup:=(List.take_sublist _ _).nodup nd
     have Yz:ss.take (m+m')=ss.take m++((ss.take 10).drop m).take m':=by
       rw [<- e10]
       unfold namesOf
       rw [List.flatMap_append]
       have z:hs.flatMap eE=ss.take m:=nms
       rw [z,<- FQ]; simp
     have inj:∀ l:List Str,l.Nodup->(l.map (Sum.inr:Str->Key)).Nodup:=fun l hl=>by
       rw [List.nodup_iff_pairwise_ne,List.pairwise_map]
       exact (List.nodup_iff_pairwise_ne.mp hl).imp fun h z=>h (Sum.inr.inj z)
     have abJ:=inj _ ndk
     rw [Yz,List.map_append] at abJ
     obtain ⟨nda,ndb,ndc⟩:=List.nodup_append.mp abJ
     have emk:oY kvs kv=kvs++kv:=vN kv kvs (by rw [Jd]; exact ndb) (fun x hx z=>by
       rw [Jd] at hx
       rw [keys,nms] at z
       exact ndc x z x hx rfl)
     rw [emk]
     have tt:bV H8 (upd (upd H8 lh (.lst (vh++[hv]))) dh (.dK (kvs++kv))):=((bV.refl H8).put Qa (fun _ z=>nomatch z)).put Yy (fun _ z=>nomatch z)
     refine ⟨dh,_,rfl,ao,?_⟩
     refine ⟨vh++[hv],hs++[hh],kvs++kv,m+m',some (.int (0+(i:Int))),some (.ref lr),some hv,some (.ref d),?_,(aB (Ne.symm Wv)).trans ao,?_,ao,?_,?_,e10,mm,by rw [List.length_append,lhs]; rfl,?_,?_,?_,?_⟩
     . have el:(10-((kvs++kv).length:Int))=10-((m+m':Nat):Int):=by rw [List.length_append,yc,agM]
       show [_,_,_,_,_,_,_,some (V.int (10-((kvs++kv).length:Int))),_,_,_,_]=_
       rw [el]
     . refine aY (aA (fun _ _ z=>(z.ts s5.tups).ts (S8.tups.trans tt)) ph) (.cons (hat.ts tt) .nil)
     . rw [List.map_append,keys,Jd,e10,nms,Yz,List.map_append]
     . intro n hn
       rw [e10,Yz] at hn
       rw [vO]
       rcases List.mem_append.mp hn with z | z
       . obtain ⟨v,ev⟩:=vals n (by rw [nms]; exact z)
         exact ⟨v,by rw [ev]; rfl⟩
       . obtain ⟨v,ev⟩:=vals2 n z
         refine ⟨v,?_⟩
         have no:cj kvs (.inr n)=none:=yW (fun y=>by
           rw [keys,nms] at y
           exact ndc (Sum.inr n) y (Sum.inr n) (List.mem_map_of_mem z) rfl)
         rw [no,ev]; rfl
     . rw [List.map_append,hnm,List.take_add_one,enm,<- ehn]; rfl
     . intro h hh'
       rcases List.mem_append.mp hh' with z | z
       . exact gh h z
       . rw [List.mem_singleton.mp z]; exact ghh
     . have a1:∀ n∈namesOf hs,gq (kvs++kv) n=gq kvs n:=fun n hn=>by
         obtain ⟨v,ev⟩:=vals n hn
         exact KH ev
       have a2:∀ n∈eE hh,gq (kvs++kv) n=gq kv n:=fun n hn=>KJ (yW (fun y=>by
           rw [keys,nms] at y
           rw [FQ] at hn
           exact ndc (Sum.inr n) y (Sum.inr n) (List.mem_map_of_mem hn) rfl))
       intro h hh'
       rcases List.mem_append.mp hh' with z | z
       . rw [zj fun n hn=>a1 n (List.mem_flatMap.mpr ⟨h,z,hn⟩)]; exact kh h z
       . rw [List.mem_singleton.mp z,zj a2]; exact kph
     . intro b o e
       have z:=S8 _ _ (s5 _ _ (S _ _ e))
       have n1:b≠lh:=aH e flh
       have n2:b≠dh:=fun y=>by
         rw [y] at e
         have:=(aB (o:=.lst []) (Ne.symm nld)).trans e
         rw [fdh] at this; cases this
       rw [aB n2,aB n1]; exact z
   . refine cF fun oM bN=>?_
     obtain ⟨vh,hs,kvs,m,o8,o9,xZ,uw,eσ,elh,ph,edh,keys,vals,nms,m10,lhs,hnm,gh,kh,S⟩:=agG
     subst bN
     subst eσ
     have SH:Same H H':=S3.trans S
     have lv:=ph.length
     have ln':hs.length<=4:=by omega
     refine ⟨lh,vh,rfl,.inl ⟨cT.of elh,fun t1 ft1=>?_⟩⟩
     have s5:Same H' (upd H' t1 (.tup vh)):=(Same.refl H').upd ft1
     generalize eH5:upd H' t1 (.tup vh)=H5 at s5
     have et1:H5 t1=some (.tup vh):=by rw [<- eH5]; exact ao
     refine ⟨a,ns,k+5,rfl,qy (SH.trans s5) ha,hb,hl,by omega,by omega,fun p H6 fp pk6 s6=>?_⟩
     have s56:Same H' H6:=s5.trans s6
     have ndn:(namesOf hs).Nodup:=by rw [nms]; exact (List.take_sublist _ _).nodup nd
     have abK:(namesOf hs).length<=24:=by rw [nms,List.length_take]; omega
     refine ⟨p,lh,dh,vh,hs,kvs,rfl,pk6,s56 _ _ elh,aA (fun _ _ z=>z.ts s56.tups) ph,by omega,(fun h hh=>(gh h hh).tojq),ndn,abK,s56 _ _ edh,keys,(fun n hn=>by
       obtain ⟨i,ei⟩:=vals n hn
       obtain ⟨k,hk,hn'⟩:=List.mem_flatMap.mp hn
       obtain ⟨r,hr2,rfl⟩:=List.mem_map.mp hn'
       have z:=(lY.mp (kh k hk)).1 r hr2
       unfold FJ at z
       have z1:=of_decide_eq_true (Bool.and_eq_true_iff.mp z).1
       have z2:=of_decide_eq_true (Bool.and_eq_true_iff.mp z).2
       rw [Uu ei] at z1 z2
       have g:=gh k hk
       have y1:=g.afL
       have y2:=g.abz
       have y3:=g.near r hr2
       exact ⟨i,ei,by omega,by omega⟩),fun x ls H7 lat gl kls pk7 sb7=>?_⟩
     have S7:Same H5 H7:=mY s6 fp sb7
     refine ⟨by show 2<=sizeLine; omega,fun t ft=>?_⟩
     have S7t:Same H5 (upd H7 t (.tup [.ref t1,x])):=S7.upd ft
     refine q (.ref t) hs ls _ ⟨t,.ref t1,x,rfl,ao,⟨t1,vh,rfl,S7t _ _ et1,aA (fun _ _ z=>z.ts (s5.trans S7t).tups) ph⟩,lat.ts ((bV.refl H7).new ft)⟩ ⟨by omega,by omega,(fun h hh=>(gh h hh).tojq),by rw [hnm]; exact (List.take_sublist _ _).nodup O6,ndn,abK⟩ gl (fun z hz=>List.mem_of_mem_take (hnm ▸ hz)) gh kls (SH.trans (s5.trans S7t))
end
end jQ
namespace L2
open PySem PySem.Spec PyProof.Rows PySem.W
section
variable {X:Cx}
theorem zp:∀ {xs:List V} {us:List Value} (k:Nat),Vals xs us->Vals (xs.take k) (us.take k)
 | _,_,0,_=>by rw [List.take_zero,List.take_zero]; exact .nil
 | _,_,_+1,.nil=>.nil
 | _,_,k+1,.cons h r=>.cons h (zp k r)
theorem zq:∀ {xs:List V} {us:List Value} (k:Nat),Vals xs us->Vals (xs.drop k) (us.drop k)
 | _,_,0,r=>r
 | _,_,_+1,.nil=>.nil
 | _,_,k+1,.cons _ r=>zq k r
def UL:V->List V->Hp->VK->Prop:=fun x vs H Q=>∃ (l:Addr) (xs:List V) (k:Nat) (y:V),x=.ref l/\vs=[.int (k:Int),y]/\H l=some (.lst xs)/\k<=xs.length/\xs.length<sizeLine/\Q .non (upd H l (.lst (xs.take k++y :: xs.drop k)))
theorem K4:MtM X "list.insert" UL:=by
 intro pins s σ H x vs v us Q I rx rv h
 obtain ⟨l,xs,k,y,rfl,rfl,hH,hk,hz,q⟩:=h
 cases rx
 obtain ⟨u,w',rfl,ru,J1⟩:=vals2 rv
 obtain ⟨t,rfl⟩:=ru
 obtain ⟨z,its,n,r,hl,e⟩:=I.Ny hH
 have mC:sizeLine=16777216:=sizeLine_eq
 have fits:¬(!Builtin.List.listFitsIndex (k:Int))=true:=by
   have:Builtin.List.listFitsIndex (k:Int)=true:=by
     unfold Builtin.List.listFitsIndex
     rw [Bool.and_eq_true]
     exact ⟨decide_eq_true (by omega),decide_eq_true (by omega)⟩
   rw [this]; decide
 have li:its.length=xs.length:=r.length.symm
 have ei:∃ i:Int,i=(k:Int):=⟨_,rfl⟩
 obtain ⟨i,hi⟩:=ei
 rw [<- hi] at fits ⊢
 have hsz:its.toArray.size<=sizeLine:=by rw [List.size_toArray]; omega
 have m:=PySem.AutoListH.list_insert_list_int_val_1 l its.toArray n i t w' fits hsz
 refine call_meets F.slot_list_insert ⟨_,e,rfl⟩ F.entry_list_insert (F.args_list_insert_3 _ _ _) m ⟨e,?_⟩
 refine ⟨.non,_,I.aaX (its':=its.take k++w' :: its.drop k) hH e ?_ ((zp k r).append (.cons J1 (zq k r))) ?_,rfl,q⟩
 . have ek:(if i<0 then (i+((its.toArray.size:Nat):Int)).toNat else min i.toNat its.toArray.size)=k:=by
     rw [if_neg (by omega),List.size_toArray]
     omega
   apply Array.toList_inj.mp
   simp only [ek]
   simp
   exact List.take_of_length_le (by rw [List.length_drop]; exact Nat.le_refl _)
 . rw [List.length_append,List.length_cons,List.length_take,List.length_drop]
   omega
end
end L2
namespace jQ
open PySem L2 fW
theorem mj {H H1:Hp} {p:Addr} (h:bM H p) (s:Same H H1):bM H1 p:=let ⟨n,e,n0⟩:=h; ⟨n,s _ _ e,n0⟩
def rN:Sp:=fun vs H Q _=>∃ (p l:Addr) (xs:List V),vs=[.ref p,.ref l]/\bM H p/\H l=some (.lst xs)/\l≠p/\xs.length<=100/\∀ (d:Addr) (ys:List V) (H':Hp),H d=none->H' d=some (.lst ys)->ys.Perm xs->bM H' p->aZ p H H'->Q (.ref d) H'
section
variable {P:Program} {w:World} {K:PySem.W.Frag} {mg:Str->Option Value} {base:Heap} {t8 t6 tR tL:Tok}
theorem pH:bf ["_law_pack_here","_law_things","_law_found","_law_thing"] ["_law_pack_here","_law_things"] (aD kW):=⟨rfl,rfl,rfl,by decide +kernel,rfl,by decide +kernel,by decide +kernel⟩
theorem FT {f cX:Addr} {fd dF:FuncData} (F:mK K "_law_mixed_up" "_law_mixed_up" kW f fd) (T:Txt mg t8 t6 tR tL)
   (cG:aO P w K mg base cg 1 cX dF ["_law_pack_here","_law_size"] mX) (cH:mg "_law_take" = some (.ref cX)) (cI:PySem.W.keepIn K (.ref cX)=true) (cJ:Binds K dF ["_law_pack_here","_law_size"] []):aO P w K mg base cg 2 f fd ["_law_pack_here","_law_things"] rN:=by
 refine F.ok pH (fun vs H Q E h=>?_) (fun cdv A outer s H vs Q E hr h=>?_)
 . obtain ⟨p,l,xs,rfl,_⟩:=h
   rfl
 . obtain ⟨p,l,xs,rfl,pk,hl,nlp,few,q⟩:=h
   have mC:sizeLine=16777216:=sizeLine_eq
   refine ⟨_,(au (aR (i:=2) pH.nd rfl (Or.inl rfl) (d8 aq)) (au (fZ PassesOwn.never rfl (eG (pV 1)) (aL (i:=3) pH.nd rfl (Or.inl rfl)) (aG (fM (qm PySem.F.plainAttrs_list PySem.F.slot_list_insert PySem.F.type_list_insert K4 (pV 2) (aj (aM cG hr rfl cH cI cJ .nil aP (aj (pV 0) (aj (bA iV (aN bZ rfl T.len PySem.boot_len (aj (pV 2) aq)) aF) aq))) (aj (pV 3) aq)))))) (aG (bh (pV 2))))),?_⟩
   refine ⟨Nat.zero_le _,fun D hD=>?_⟩
   have s0:Same H (upd H D (.lst [])):=(Same.refl H).upd hD
   have nDp:D≠p:=fun e=>by obtain ⟨n,z,_⟩:=pk; rw [<- e,hD] at z; cases z
   have nlD:l≠D:=fun e=>by rw [e,hD] at hl; cases hl
   refine ⟨l,rfl,⟨_,cT.of (s0 _ _ hl)⟩,qd (xs:=xs) (fun i σ H'=>∃ (ys:List V) (o3:Option V),σ=[some (.ref p),some (.ref l),some (.ref D),o3]/\H' D=some (.lst ys)/\ys.Perm (xs.take i)/\bM H' p/\∀ b u,b≠p->H b=some u->H' b=some u) ⟨[],none,rfl,ao,.nil,mj pk s0,fun b u _ e=>s0 _ _ e⟩ (fun i σ H' _ hz=>by obtain ⟨_,_,_,_,_,_,s⟩:=hz; exact cT.of (s _ _ nlp hl)) (fun i v σ H1 hv hz=>?_) (fun σ H1 hz=>?_)⟩
   . obtain ⟨ys,o3,rfl,eD,pm,Wq,s1⟩:=hz
     have ly:=pm.length_eq
     rw [List.length_take] at ly
     refine ⟨.inl ⟨rfl,_,cT.of eD⟩,?_⟩
     refine ⟨D,_,rfl,.inl (cT.of eD),?_⟩
     refine ⟨p,(ys.length:Int)+1,rfl,Wq,by omega,by omega,fun d H2 d0 d1 pk2 MK=>?_⟩
     obtain ⟨k,rfl⟩:∃ k:Nat,d=(k:Int):=⟨d.toNat,by omega⟩
     have SJ:H2 D=some (.lst ys):=MK D _ nDp eD
     refine ⟨D,ys,k,v,rfl,rfl,SJ,by omega,by omega,?_⟩
     refine ⟨ys.take k++v :: ys.drop k,_,rfl,ao,?_,?_,fun b u nb e=>?_⟩
     . rw [List.take_add_one,hv]
       have z:(ys.take k++v :: ys.drop k).Perm (v :: ys):=by
         refine List.perm_middle.trans ?_
         rw [List.take_append_drop]
       refine z.trans ((pm.cons v).trans ?_)
       exact (List.perm_append_singleton v _).symm
     . obtain ⟨n,e,r⟩:=pk2
       exact ⟨n,by rw [aB (Ne.symm nDp)]; exact e,r⟩
     . rw [aB (aH e hD)]
       exact MK b u nb (s1 b u nb e)
   . obtain ⟨ys,o3,rfl,eD,pm,Wq,s1⟩:=hz
     rw [List.take_length] at pm
     exact q D ys H1 hD eD pm Wq (fun b u nb e=>s1 b u nb e)
end
end jQ
namespace jQ
open PySem L2 fW
section
variable {H1:Hp} {D:Addr} {σ0:St} {g:BI->TG} {te:BI->TE} {End:Hp->Prop} {α β:Type}
theorem K5 {K:PySem.W.Frag} {R:V->α->Prop} {R':Hp->V->β->Prop} {a:Addr} {xs:List V} {bs:List α} {f:α->β} (mono:∀ {H H':Hp} {v b},bV H H'->R' H v b->R' H' v b) (hD:H1 D=none) (hT:H1 a=some (.tup xs)) (few:xs.length<=1000) (pr:Paired R xs bs)
   (turn:∀ (x:V) (c:α) (H':Hp),c∈bs->R x c->Same H1 H'->∀ b (Q:VK),(∀ v gK,Same H' gK->R' gK v (f c)->Q v gK)->g b x σ0 H' fun σ2 H2=>te b σ2 H2 Q)
   (fin:∀ vs H',Same H1 H'->H' D=some (.lst vs)->Paired (R' H') vs (bs.map f)->End H') :
   ∃ W:Nat->Nat->Hp->Prop,(∃ m,W 0 m (upd H1 D (.lst [])))/\∀ b,jE (R7 K a) (g b) (NZ) (jP D (te b)) σ0 End W :=
 qw (xs:=xs) (fun i H'=>∃ zs,dU H1 H' D zs/\Paired (R' H') zs ((bs.take i).map f)) ⟨[],dU.start hD,.nil⟩ (fun i H' _ hz=>by obtain ⟨_,G,_⟩:=hz; exact bW.of (G.same _ _ hT)) (fun H' hz=>by
   obtain ⟨zs,G,pz⟩:=hz
   rw [pr.length,List.take_length] at pz
   exact fin zs H' G.same G.at' pz) (fun i x H' hx hi hz b=>by
   obtain ⟨zs,G,pz⟩:=hz
   obtain ⟨c,hc,rc⟩:=bw pr hx
   refine turn x c H' (List.mem_of_getElem? hc) rc G.same b _ fun v gK s hv=>?_
   have mC:sizeLine=16777216:=sizeLine_eq
   have lz:=pz.length
   rw [List.length_map,List.length_take] at lz
   have G2:=G.more s
   have tt:bV gK (upd gK D (.lst (zs++[v]))):=fun c ys e=>by rw [aB (fun z=>by rw [z,G2.at'] at e; cases e)]; exact e
   refine ⟨zs,G2.at',by omega,nx hi ⟨zs++[v],G2.put hD v,?_⟩⟩
   rw [List.take_add_one,hc,List.map_append]
   exact aY (aA (fun _ _ z=>mono (s.tups.trans tt) z) pz) (.cons (mono tt hv) .nil))
end
abbrev ux:=Str × Int × Str × Int
def Qc (H:Hp) (v:V) (t:ux):Prop:=∃ a,v=.ref a/\H a=some (.tup [.str t.1,.int t.2.1,.str t.2.2.1,.int t.2.2.2])
theorem Qc.ts {H H':Hp} {v:V} {t:ux} (h:Qc H v t) (s:bV H H'):Qc H' v t:=let ⟨a,e,g⟩:=h; ⟨a,e,s _ _ g⟩
def trR (h:aJ) (j:Nat) (r:Row):ux:=(h.name,2 * (j:Int)+1,r.1,r.2)
def trJ (h:aJ) (j:Nat):List ux:=(h.runs.getD j []).map (trR h j)
def trH (h:aJ):List ux:=(List.range h.runs.length).flatMap (trJ h)
def UW (hs:List aJ):List ux:=hs.flatMap trH
def FW:Sp:=fun vs H Q _=>∃ (x:V) (hs:List aJ) (ls:List Letter),vs=[x]/\dD H x hs ls/\bL hs/\∀ (d:Addr) (ws:List V) (H':Hp),H d=none->H' d=some (.lst ws)->Paired (Qc H') ws (UW hs)->Same H H'->Q (.ref d) H'
section
variable {P:Program} {w:World} {K:PySem.W.Frag} {mg:Str->Option Value} {base:Heap} {t8 t6 tR tL:Tok}
theorem qF:bf ["_law_ledger_here","_law_found","_law_house_here","_law_number"] ["_law_ledger_here"] (aD iu):=⟨rfl,rfl,rfl,by decide +kernel,rfl,by decide +kernel,by decide +kernel⟩
theorem U0 {f:Addr} {fd:FuncData} (F:mK K "_law_told_rows" "_law_told_rows" iu f fd) (T:Txt mg t8 t6 tR tL):aO P w K mg base cg 1 f fd ["_law_ledger_here"] FW:=by
 refine F.ok qF (fun vs H Q E h=>?_) (fun cdv A outer s H vs Q E hr h=>?_)
 . obtain ⟨x,hs,ls,rfl,_⟩:=h
   rfl
 . obtain ⟨x,hs,ls,rfl,⟨a,y,z,rfl,ha,⟨c,vh,rfl,hc,ph⟩,hL⟩,gh,q⟩:=h
   have mC:sizeLine=16777216:=sizeLine_eq
   refine ⟨_,(au (aR (i:=1) qF.nd rfl (Or.inl rfl) (d8 aq)) (au (fZ PassesOwn.never rfl (jh (bI fV (pV 0) aF (fun _ _=>rfl))) (aL (i:=2) qF.nd rfl (Or.inr rfl)) (aG (fZ PassesOwn.never rfl (gA rfl T.range (aj (aN bZ rfl T.len PySem.boot_len (aj (bI fV (pV 2) aF (fun _ _=>rfl)) aq)) aq)) (aL (i:=3) qF.nd rfl (Or.inr rfl)) (aG (aR (i:=1) qF.nd rfl (Or.inl rfl) (bA Nz (pV 1) (cB (iH:=aD iu) (own:=["_law_name","_law_reading"]) (cap:=["_law_house_here","_law_number"]) (ix:=[2,3]) rfl rfl ⟨rfl,by decide +kernel,by decide +kernel,by decide +kernel,rfl,by decide +kernel⟩ (jh (bI fV (bI fV (pV 2) aF (fun _ _=>rfl)) (pV 3) (fun _ _=>rfl))) (fun b=>(jg rfl (aU (aL (i:=0) (show (["_law_name","_law_reading","_law_house_here","_law_number"]:List Str).Nodup by decide +kernel) rfl (Or.inl rfl)) (aU (aL (i:=1) (show (["_law_name","_law_reading","_law_house_here","_law_number"]:List Str).Nodup by decide +kernel) rfl (Or.inl rfl)) fX)))) (fun b=>cN) (fun b=>(bK (aj (bI fV (pV 2) aF (fun _ _=>rfl)) (aj (bA iV (bA X3 aF (pV 3)) aF) (aj (pV 0) (aj (pV 1) aq))))))))))))) (aG (bh (pV 1))))),?_⟩
   refine ⟨Nat.zero_le _,fun F fF=>?_⟩
   have s1:Same H (upd H F (.lst [])):=(Same.refl H).upd fF
   refine cP (bW.of (s1 _ _ ha)) (i:=0) (v:=.ref c) (by rfl) ?_
   have h6:=gh.hi
   have lh:=ph.length
   refine ⟨c,rfl,⟨_,bW.of (s1 _ _ hc)⟩,uz (xs:=vh) (fun i σ H'=>∃ (D:Addr) (ws:List V) (o2 o3:Option V),σ=[some (.ref a),some (.ref D),o2,o3]/\H D=none/\H' D=some (.lst ws)/\ws.length<=i * 625/\Paired (Qc H') ws (UW (hs.take i))/\Same H H') ⟨F,[],none,none,rfl,fF,ao,Nat.zero_le _,.nil,s1⟩ (fun i σ H' _ hz=>by obtain ⟨_,_,_,_,_,_,_,_,_,s⟩:=hz; exact bW.of (s _ _ hc)) (fun i v σ H2 hv hz=>?_) (fun σ H2 hz=>?_)⟩
   . obtain ⟨D,ws,o2,o3,rfl,fD,eD,lw,pw,s⟩:=hz
     obtain ⟨hh,hhi,ht⟩:=bw ph hv
     obtain ⟨c1,b1,rfl,e1,c5,vr,rfl,e5,pr⟩:=ht
     have gd:=gh.all hh (List.mem_of_getElem? hhi)
     have lr:=pr.length
     have few:=gd.few
     have hi6:i<hs.length:=(List.getElem?_eq_some_iff.mp hhi).1
     refine cP (bW.of (s _ _ e1)) (i:=4) (v:=.ref c5) (by rfl) ?_
     refine ⟨c5,_,rfl,.inr (bW.of (s _ _ e5)),?_⟩
     refine ⟨(vr.length:Int),rfl,by omega,by omega,j9 (lo:=0) (n:=((vr.length:Int)).toNat) (fun j σ H'=>∃ (D:Addr) (ws:List V) (o3:Option V),σ=[some (.ref a),some (.ref D),some (.ref c1),o3]/\H D=none/\H' D=some (.lst ws)/\ws.length<=i * 625+j * 25/\Paired (Qc H') ws (UW (hs.take i)++(List.range j).flatMap (trJ hh))/\Same H H') ⟨D,ws,o3,rfl,fD,eD,by omega,by simpa using pw,s⟩ (fun j σ H3 hj hz=>?_) (fun σ H3 hz=>?_)⟩
     . obtain ⟨D,ws,o3,rfl,fD,eD,lw,pw,s3⟩:=hz
       have hj':j<vr.length:=by omega
       obtain ⟨rs,hrj,c2,w2,e2v,e2,p2⟩:=bw pr (List.getElem?_eq_getElem hj')
       have gr:=gd.runs rs (List.mem_of_getElem? hrj)
       have l2:=p2.length
       have f25:=gr.few
       refine cP (bW.of (s3 _ _ e1)) (i:=4) (v:=.ref c5) (by rfl) ?_
       refine cP (bW.of (s3 _ _ e5)) (i:=0+(j:Int)) (v:=.ref c2) (by rw [Int.zero_add]; exact lN (by rw [List.getElem?_eq_getElem hj',e2v])) ?_
       refine ⟨c2,rfl,⟨_,bW.of (s3 _ _ e2)⟩,fun D2 hD2=>K5 (R':=Qc) (f:=trR hh j) (fun t z=>z.ts t) hD2 (s3 _ _ e2) (by omega) p2 (fun x r H4 hr' rr s4 bb R hR=>?_) (fun zs H4 s4 SJ pz=>?_)⟩
       . obtain ⟨c3,rfl,e3⟩:=rr
         refine ⟨c3,_,rfl,bW.of ((s3.trans s4) _ _ e3),rfl,_,_,rfl,_,_,rfl,rfl,?_⟩
         refine cP (bW.of ((s3.trans s4) _ _ e1)) (i:=0) (v:=.str hh.name) (by rfl) ?_
         refine ⟨.inl ⟨by decide,by decide⟩,?_⟩
         refine ⟨by show 4<=sizeLine; omega,fun p hp=>?_⟩
         refine hR _ _ ((Same.refl H4).upd hp) ⟨p,rfl,?_⟩
         rw [ao]
         show some (HO.tup [.str hh.name,.int (2 * (0+(j:Int))+1),.str r.1,.int r.2])=_
         rw [Int.zero_add]
         rfl
       . have lz:=pz.length
         rw [List.length_map] at lz
         have eD4:=s4 _ _ eD
         refine ⟨D,D2,ws,zs,rfl,rfl,eD4,SJ,by omega,fun p hp=>?_⟩
         have s5:Same H4 (upd H4 p (.lst (ws++zs))):=(Same.refl H4).upd hp
         have SM:=(s3.trans s4).trans s5
         refine ⟨p,ws++zs,_,rfl,(s3.trans s4).free hp,ao,by rw [List.length_append]; omega,?_,SM⟩
         rw [List.range_succ,List.flatMap_append,<- List.append_assoc]
         refine aY (aA (fun _ _ z=>z.ts (s4.trans s5).tups) pw) ?_
         have ez:(List.flatMap (trJ hh) [j])=rs.map (trR hh j):=by
           simp [trJ,List.getD,hrj]
         rw [ez]
         exact aA (fun _ _ z=>z.ts s5.tups) pz
     . obtain ⟨D,ws,o3,rfl,fD,eD,lw,pw,s3⟩:=hz
       have en:((vr.length:Int)).toNat=hh.runs.length:=by omega
       rw [en] at lw pw
       refine ⟨D,ws,_,_,rfl,fD,eD,by omega,?_,s3⟩
       unfold UW at pw ⊢
       rw [List.take_add_one,hhi,List.flatMap_append]
       simpa [trH] using pw
   . obtain ⟨D,ws,o2,o3,rfl,fD,eD,lw,pw,s⟩:=hz
     rw [lh,List.take_length] at pw
     exact q D ws H2 fD eD pw s
end
end jQ
namespace jQ
open PySem L2 fW
def oW (H:Hp) (v:V) (h:aJ):Prop:=∃ a,v=.ref a/\H a=some (.tup [.str h.name,.int h.low,.int h.high,.int h.aQ])
theorem oW.ts {H H':Hp} {v:V} {h:aJ} (c:oW H v h) (s:bV H H'):oW H' v h:=let ⟨a,e,g⟩:=c; ⟨a,e,s _ _ g⟩
def Qd (h:aJ):Da:=.tup [.str h.name,.int h.low,.int h.high,.int h.aQ]
theorem oW.da {H:Hp} {v:V} {h:aJ} (c:oW H v h) (g:jq h):eV H v (Qd h):=by
 obtain ⟨a,rfl,e⟩:=c
 exact .tup e (show 4<=25 by decide) (.cons g.name.da (.cons (.int _) (.cons (.int _) (.cons (.int _) .nil))))
def jJ (H:Hp) (v:V) (hs:List aJ):Prop:=∃ a vs,v=.ref a/\H a=some (.tup vs)/\Paired (oW H) vs hs
def wj:Sp:=fun vs H Q _=>∃ (x:V) (h:aJ),vs=[x]/\oW H x h/\jq h/\∀ H',Same H H'->Q (.bl true) H'
def rO:Sp:=fun vs H Q _=>∃ (x:V) (hs:List aJ),vs=[x]/\jJ H x hs/\bL hs/\∀ H',Same H H'->Q (.bl true) H'
section
variable {P:Program} {w:World} {K:PySem.W.Frag} {mg:Str->Option Value} {base:Heap} {t8 t6 tR tL:Tok}
theorem lq:bf ["thing","name","low","high","drift"] ["thing"] (aD nQ):=⟨rfl,rfl,rfl,by decide +kernel,rfl,by decide +kernel,by decide +kernel⟩
theorem K6 {f lX Bk:Addr} {fd m8 Dr:FuncData} (F:mK K "is_empty_house" "is_empty_house" nQ f fd)
   (Ba:aO P w K mg base cg 2 lX m8 ["thing","many"] uM) (Bb:mg "has_parts" = some (.ref lX)) (Bc:PySem.W.keepIn K (.ref lX)=true) (Bd:Binds K m8 ["thing","many"] [])
   (U7:aO P w K mg base cg 2 Bk Dr ["name","low","high","drift"] Am) (U8:mg "is_clock" = some (.ref Bk)) (U9:PySem.W.keepIn K (.ref Bk)=true) (Va:Binds K Dr ["name","low","high","drift"] []):aO P w K mg base cg 3 f fd ["thing"] wj:=by
 refine F.ok lq (fun vs H Q E h=>?_) (fun cdv A outer s H vs Q E hr h=>?_)
 . obtain ⟨x,h,rfl,_⟩:=h
   rfl
 . obtain ⟨x,h,rfl,hx,g,q⟩:=h
   refine ⟨_,(au (cC (dH (xW (aM Ba hr rfl Bb Bc Bd .nil aP (aj (pV 0) (aj aF aq))))) (aG (bh jR)) aW) (au (uV (pV 0) (jg rfl (aU (aL (i:=1) lq.nd rfl (Or.inl rfl)) (aU (aL (i:=2) lq.nd rfl (Or.inl rfl)) (aU (aL (i:=3) lq.nd rfl (Or.inl rfl)) (aU (aL (i:=4) lq.nd rfl (Or.inl rfl)) fX)))))) (aG (bh (aM U7 hr rfl U8 U9 Va .nil aP (aj (pV 1) (aj (pV 2) (aj (pV 3) (aj (pV 4) aq))))))))),?_⟩
   refine ⟨x,Qd h,4,rfl,hx.da g,?_⟩
   obtain ⟨a,rfl,e⟩:=hx
   refine ⟨a,_,rfl,bW.of e,rfl,_,_,rfl,_,_,rfl,_,_,rfl,_,_,rfl,rfl,?_⟩
   refine ⟨_,_,_,_,.str h.name,.int h.low,.int h.high,.int h.aQ,rfl,g.name.da,.int _,.int _,.int _,fun H' s'=>?_⟩
   rw [O7 g.name g.wide g.aQ]
   exact q H' s'
theorem FZ:bf ["thing"] ["thing"] (aD iW):=⟨rfl,rfl,rfl,by decide +kernel,rfl,by decide +kernel,by decide +kernel⟩
theorem Ga {f wk wu:Addr} {fd zu zx:FuncData} (F:mK K "are_empty_houses" "are_empty_houses" iW f fd) (T:Txt mg t8 t6 tR tL)
   (Qe:aO P w K mg base cg 3 wk zu ["thing"] wj) (Qf:mg "is_empty_house" = some (.ref wk)) (Qg:PySem.W.keepIn K (.ref wk)=true) (Qh:Binds K zu ["thing"] [])
   (Qi:aO P w K mg base cg 3 wu zx ["names"] vH) (Qj:mg "are_unlike" = some (.ref wu)) (Qk:PySem.W.keepIn K (.ref wu)=true) (Ql:Binds K zx ["names"] []):aO P w K mg base cg 4 f fd ["thing"] rO:=by
 refine F.ok FZ (fun vs H Q E h=>?_) (fun cdv A outer s H vs Q E hr h=>?_)
 . obtain ⟨x,hs,rfl,_⟩:=h
   rfl
 . obtain ⟨x,hs,rfl,⟨c,vs,rfl,hc,pc⟩,gh,q⟩:=h
   have mC:sizeLine=16777216:=sizeLine_eq
   have len:=pc.length
   have h1:=gh.lo
   have h6:=gh.hi
   have hd:eV H (.ref c) (.tup (hs.map Qd)):=.tup hc (by omega) (Kv pc fun v x hx q=>q.da (gh.all x hx))
   obtain ⟨_,⟨T',ty,kt⟩,_⟩:=hd.kind (K:=K)
   refine ⟨_,(au (cC (uq (dH (xW (aN gP rfl T.Um PyProof.Rows.boot_isinstance (aj (pV 0) (aj (jk (v:=.ty "tuple") rfl T.tuple PyProof.Rows.boot_tuple rfl) aq))))) (pw_or1 (dH (X6 oLe oLe aF (aN bZ rfl T.len PySem.boot_len (aj (pV 0) aq)) (pZ (v:=.int 6) rfl T.abv ⟨_,rfl⟩))))) (aG (bh jR)) aW) (au (cC (dH (xW (aN (qp rfl) rfl T.all PyProof.Rows.boot_all (aj (cB (iH:=aD iW) (own:=["house"]) (cap:=[]) (ix:=[]) rfl rfl ⟨rfl,by decide +kernel,by decide +kernel,by decide +kernel,rfl,by decide +kernel⟩ (jh (pV 0)) (fun b=>(aL (i:=0) (show (["house"]:List Str).Nodup by decide +kernel) rfl (Or.inl rfl))) (fun b=>cN) (fun b=>(aM Qe hr rfl Qf Qg Qh .nil aP (aj (pV 0) aq)))) aq)))) (aG (bh jR)) aW) (aG (bh (aM Qi hr rfl Qj Qk Ql .nil aP (aj (cB (iH:=aD iW) (own:=["house"]) (cap:=[]) (ix:=[]) rfl rfl ⟨rfl,by decide +kernel,by decide +kernel,by decide +kernel,rfl,by decide +kernel⟩ (jh (pV 0)) (fun b=>(aL (i:=0) (show (["house"]:List Str).Nodup by decide +kernel) rfl (Or.inl rfl))) (fun b=>cN) (fun b=>(bI fV (pV 0) aF (fun _ _=>rfl)))) aq)))))),?_⟩
   refine ⟨_,_,_,_,rfl,ty,kt,?_⟩
   refine ⟨c,vs,rfl,.inr (bW.of hc),?_⟩
   refine fP (fun z=>?_) (fun z=>absurd (decide_eq_true (show (1:Int)<=(vs.length:Int) by omega)) z)
   refine fP (fun w=>by rw [decide_eq_true (show (vs.length:Int)<=6 by omega)] at w; cases w) (fun w=>?_)
   refine ⟨c,rfl,⟨_,bW.of hc⟩,fun D hD=>comp_map (xs:=vs) (ys:=(hs.map fun _=>true).map V.bl) hD (bW.of hc) (by omega) (by rw [List.length_map,List.length_map]; omega) (fun i x H' hx s2 b R hR=>?_) (fun H' s2 e=>?_)⟩
   . obtain ⟨h,hy,ya⟩:=bw pc hx
     exact ⟨x,h,rfl,ya.ts s2.tups,gh.all h (List.mem_of_getElem? hy),fun gK s=>hR gK _ (by rw [List.getElem?_map,List.getElem?_map,hy]; rfl) s⟩
   . refine ⟨D,_,rfl,cT.of e,?_⟩
     rw [show (hs.map fun _=>true).all id=true from List.all_eq_true.mpr fun b hb=>by obtain ⟨_,_,rfl⟩:=List.mem_map.mp hb; rfl]
     have hc2:=s2 _ _ hc
     refine ⟨c,rfl,⟨_,bW.of hc2⟩,fun D2 hD2=>comp_map (xs:=vs) (ys:=hs.map fun h=>V.str h.name) hD2 (bW.of hc2) (by omega) (by rw [List.length_map]; omega) (fun i x H3 hx s4 b R hR=>?_) (fun H3 s4 e2=>?_)⟩
     . obtain ⟨h,hh',ca⟩:=bw pc hx
       obtain ⟨a1,rfl,g1⟩:=ca.ts (s2.trans s4).tups
       refine cP (bW.of g1) (i:=0) (v:=.str h.name) (by rfl) ?_
       exact hR H3 _ (by rw [List.getElem?_map,hh']; rfl) (Same.refl _)
     . refine ⟨D2,hs.map aJ.name,rfl,by rw [List.map_map]; exact e2,by rw [List.length_map]; omega,fun H4 s5=>?_⟩
       rw [decide_eq_true gh.names]
       exact q H4 ((s2.trans s4).trans s5)
end
end jQ
namespace jQ
open PySem L2 fW
abbrev Place:=Str × Int × Int
def Bl (H:Hp) (a:Addr) (m:Str->Option Place):Prop:=∃ kvs,H a=some (.dK kvs)/\∀ n,(m n=none->cj kvs (.inr n)=none)/\∀ p,m n=some p->∃ b,cj kvs (.inr n)=some (.ref b)/\H b=some (.tup [.str p.1,.int p.2.1,.int p.2.2])
def dJ (m:Str->Option Place) (s t:Str):Bool:=match m s,m t with
 | some a,some b=>decide (a.1=b.1)
 | _,_=>false
def qG:Sp:=fun vs H Q _=>∃ (a:Addr) (m:Str->Option Place) (s t:Str),vs=[.ref a,.str s,.str t]/\Bl H a m/\Q (.bl (dJ m s t)) H
section
variable {P:Program} {w:World} {K:PySem.W.Frag} {mg:Str->Option Value} {base:Heap} {t8 t6 tR tL:Tok}
theorem K7:bf ["rows","sent","taken"] ["rows","sent","taken"] (aD nT):=⟨rfl,rfl,rfl,by decide +kernel,rfl,by decide +kernel,by decide +kernel⟩
theorem K8 {f:Addr} {fd:FuncData} (F:mK K "is_within_a_house" "is_within_a_house" nT f fd):aO P w K mg base cg 1 f fd ["rows","sent","taken"] qG:=by
 refine F.ok K7 (fun vs H Q E h=>?_) (fun cdv A outer s H vs Q E hr h=>?_)
 . obtain ⟨a,m,s,t,rfl,_⟩:=h
   rfl
 . obtain ⟨a,m,s,t,rfl,⟨kvs,eO,hk⟩,q⟩:=h
   refine ⟨_,(aG (bh (qu (Ng (lO (cU hr) (pV 1) (pV 0))) (qu (Ng (lO (cU hr) (pV 2) (pV 0))) (mL (iG Cg (bI fV (fO (cU hr) (pV 0) (pV 1) (fun _ _=>rfl)) aF (fun _ _=>rfl)) (bI fV (fO (cU hr) (pV 0) (pV 2) (fun _ _=>rfl)) aF (fun _ _=>rfl)) (bB _))))))),?_⟩
   refine ⟨a,_,rfl,eU.k (k:=Sum.inr s) eO,?_⟩
   cases es:m s with
   | none =>
     rw [(hk s).1 es]
     have q':Q (.bl false) H:=by
       have e:dJ m s t=false:=by unfold dJ; rw [es]
       rw [e] at q; exact q
     exact q'
   | some p =>
     obtain ⟨b,v1,g1⟩:=(hk s).2 p es
     rw [v1]
     refine ⟨a,_,rfl,eU.k (k:=Sum.inr t) eO,?_⟩
     cases et:m t with
     | none =>
       rw [(hk t).1 et]
       have q':Q (.bl false) H:=by
         have e:dJ m s t=false:=by unfold dJ; rw [es,et]
         rw [e] at q; exact q
       exact q'
     | some p' =>
       obtain ⟨b',v2,g2⟩:=(hk t).2 p' et
       rw [v2]
       refine ⟨a,_,rfl,v1 ▸ eU.k (k:=Sum.inr s) eO,?_⟩
       refine cP (bW.of g1) (i:=0) (v:=.str p.1) (by rfl) ?_
       refine ⟨a,_,rfl,v2 ▸ eU.k (k:=Sum.inr t) eO,?_⟩
       refine cP (bW.of g2) (i:=0) (v:=.str p'.1) (by rfl) ?_
       refine ⟨rfl,?_⟩
       have e:dJ m s t=decide (V.str p.1=V.str p'.1):=by
         unfold dJ
         rw [es,et]
         simp
       rw [e] at q
       exact q
end
end jQ
namespace L2
open PySem PySem.Spec PyProof.Rows
def abL:HO->Prop
 | .dK _=>True
 | .dT _=>True
 | _=>False
def Qm (H0 H H':Hp):Prop:=∃ a o u,H a=some (.iQ o u)/\abL u/\(∀ o u,H0 a≠some (.iQ o u))/\H'=upd H a u
section
variable {X:Cx} {pins:List (Addr × Obj)} {σ:St} {H H':Hp} {s:Shared}
theorem Inv.abM (I:Inv X pins σ H s) (t:Qm X.H₀ H H'):Inv X pins σ H' s:=by
 obtain ⟨a,o,u,e,du,hz,rfl⟩:=t
 have ne:∀ b,H b=none->b≠a:=fun b hb z=>by subst z; rw [e] at hb; cases hb
 have nt:∀ b xs,H b=some (.tup xs)->b≠a:=fun b xs hb z=>by subst z; rw [e] at hb; cases hb
 have no:∀ b y,H b=some (.own y)->b≠a:=fun b xs hb z=>by subst z; rw [e] at hb; cases hb
 refine ⟨I.ok,I.os,I.bare,⟨I.base.keep,I.base.slot,fun b o' h1 h2 h3=>?_,I.base.there,fun b xs h=>?_,fun b o' u' h=>?_,fun b ps h=>?_⟩,I.loc,I.cell,?_,fun x c h=>?_,fun p hp=>?_,fun b v h=>?_,I.len⟩
 . have z:=I.base.free b o' h1 h2 h3
   rw [aB (ne b z)]; exact z
 . have z:=I.base.tups b xs h
   rw [aB (nt b xs z)]; exact z
 . have z:=I.base.xR b o' u' h
   have n:b≠a:=fun q=>by subst q; exact hz _ _ h
   rw [aB n]; exact z
 . obtain ⟨m,z⟩:=I.base.zR b ps h
   have n:b≠a:=fun q=>by subst q; rw [e] at z; cases z
   exact ⟨m,by rw [aB n]; exact z⟩
 . rw [aB (ne _ I.free)]; exact I.free
 . have z:=I.j8 x c h
   rw [aB (ne _ z)]; exact z
 . obtain ⟨p1,p2,p3⟩:=I.pin p hp
   exact ⟨p1,by rw [aB (ne _ p2)]; exact p2,p3⟩
 . have st:∀ {c:Addr} {w':HO},bQ X.prog X.w H s.heap c w'->bQ X.prog X.w (upd H a u) s.heap c w':=fun {c w'} q =>
     q.stay (fun _ _ _ q=>q) (fun c q=>by rw [aB (no _ _ q)]; exact q) fun c xs q=>by rw [aB (nt _ _ q)]; exact q
   by_cases z:b=a
   . subst z
     rw [ao] at h
     cases h
     exact st (show bQ X.prog X.w H s.heap b (.iQ o u) from I.hok b _ e).2
   . rw [aB z] at h
     exact st (I.hok b v h)
variable {e:Expr} {te:TE} {st:Stmt} {ts:TS}
def abN (H0:Hp) (t:TE):TE:=fun σ H Q=>t σ H fun v H1=>∃ H2,Qm H0 H1 H2/\Q v H2
theorem Vb (h:PE X e te):PE X e (abN X.H₀ te):=by
 intro pins s σ H Q I q
 exact cY (h pins s σ H _ I q) fun u s1 ⟨v,H1,I1,r,H2,t,q2⟩=>⟨v,H2,I1.abM t,r,q2⟩
def abO (H0:Hp) (t:TS):TS:=fun D σ H=>∃ H1,Qm H0 H H1/\t D σ H1
theorem Je (h:PS X st ts):PS X st (abO X.H₀ ts):=by
 intro pins s σ H D I ⟨H1,t,q⟩
 exact h pins s σ H1 D (I.abM t) q
end
end L2
namespace L2
open PySem PySem.Spec PyProof.Rows
def Iti (d:Addr) (o:Obj) (kvs:List (Key × V)):It:=⟨fun i H=>H d=some (.iQ o (.dK kvs))/\i<kvs.length,fun i H v H'=>∃ T k x,H T=none/\v=.ref T/\kvs[i]?=some (k,x)/\H'=upd H T (.tup [kV k,x]),fun i H=>H d=some (.iQ o (.dK kvs))/\kvs.length<=i⟩
theorem Gb {P:Program} {w:World} {K:PySem.W.Frag} {elts:List Expr} {kk:Nat} {pos:Pos} (d it:Addr) (o:Obj) (es:Array DictEntry) (ep:Nat) (kvs:List (Key × V)) (hd:o.data=.dict es ep) :
   Turn P w K (.Tuple elts kk pos) (Iti d o kvs) [it] it (fun i h=>∃ ok ov,IsItemIter h it d i kvs.length ep ok ov) where
 mem:=by simp
 obj:=fun i h st b hb=>by
   have e:b=it:=by simpa using hb
   subst e
   obtain ⟨ok,ov,st⟩:=st
   exact ⟨_,st,fun v z=>by cases (show Data.fields _=Data.cell v from z)⟩
 keep:=fun i h h' ⟨ok,ov,st⟩ k=>⟨ok,ov,k it (by simp) _ st⟩
 item:=by
   intro X hP hw hK hc i pins s σ H E I hf st hg
   subst hP hw hK
   obtain ⟨hd',lt⟩:=hg
   obtain ⟨ok,ov,st⟩:=st
   obtain ⟨vs,es',ep',rel,_,dd,hat⟩:=I.iQ hd'
   rw [hd] at dd
   cases dd
   have lv:=rel.length
   obtain ⟨⟨k,u⟩,hx⟩:∃ p,vs[i]?=some p:=⟨vs[i]'(by omega),List.getElem?_eq_getElem _⟩
   obtain ⟨⟨k',x⟩,hy,e1,ru⟩:=fj rel hx
   cases (show k'=k from e1)
   rw [lv] at st
   refine wpAny_pyNext_items_item st hat hx fun key h' hkey ho hT hsz hk=>?_
   refine ⟨_,rfl,wpAny_letOwnedTupleGo_items (s:={ s with heap:=h' }) ho fun h2 b1 b2=>?_⟩
   have lte:it<s.heap.objs.size:=Heap.lt_size st
   have nz:s.heap.objs.size≠it:=Nat.ne_of_gt lte
   have eT:h2.get? s.heap.objs.size=some { cls:=.type "tuple",data:=.seq #[key,u] }:=(b2.2 _ nz).trans hT
   have fresh:H s.heap.objs.size=none:=I.hok.fresh (Nat.le_refl _)
   have I1:Inv X pins σ (upd H s.heap.objs.size (.tup [kV k,x])) { s with heap:=s.heap.push { cls:=.type "tuple",data:=.seq #[key,u] } } :=
     I.laid (t':=s.toks) (fun _ _ e=>Heap.get?_push_of_some _ e) (Nat.le_refl _) ⟨by show 2<=sizeLine; rw [sizeLine_eq]; decide,[key,u],.cons (yZ hkey) (.cons ru .nil),lJ.new _ _⟩
   have hf1:∀ c∈[it],oJ X pins (upd H s.heap.objs.size (.tup [kV k,x])) c:=fun c hc=>by
     have e:c=it:=by simpa using hc
     subst e
     exact ⟨by rw [aB (Ne.symm nz)]; exact (hf _ (by simp)).1,(hf _ (by simp)).2⟩
   have I2:Inv X pins σ (upd H s.heap.objs.size (.tup [kV k,x])) { s with heap:=h2,toks:=s.toks }:=I1.T6 (t':=s.toks) (fun c o hc q=>by
     by_cases ec:c=s.heap.objs.size
     . subst ec
       have e':(s.heap.push { cls:=.type "tuple",data:=.seq #[key,u] }).get? s.heap.objs.size=some o:=q
       rw [Heap.get?_push_size _ rfl] at e'
       cases e'
       exact eT
     . have e':(s.heap.push { cls:=.type "tuple",data:=.seq #[key,u] }).get? c=some o:=q
       rw [Heap.get?_push_ne _ _ _ ec] at e'
       have ni:c≠it:=by simpa using hc
       exact (b2.2 c ni).trans (hk c o ni e')) hf1
   rw [<- lv] at b1
   exact ⟨.ref s.heap.objs.size,_,I2,rfl,⟨_,_,_,fresh,rfl,hy,rfl⟩,⟨_,_,b1⟩,fun c hc=>(hf1 c hc).1⟩
 done:=by
   intro X hP hw hK hc i pins s σ H E I hf st hg
   subst hP hw hK
   obtain ⟨f0,f1,f2,f3,f4,f5⟩:=hf it (by simp)
   obtain ⟨hd',le⟩:=hg
   obtain ⟨ok,ov,st⟩:=st
   obtain ⟨vs,es',ep',rel,_,dd,hat⟩:=I.iQ hd'
   rw [hd] at dd
   cases dd
   have lv:=rel.length
   rw [lv] at st
   exact wpAny_pyNext_items_end (I.ok.hd hc) st hat (List.getElem?_eq_none (by omega)) fun h' eb=>⟨rfl,I.turned (t':=s.toks) (fun b o hb e=>eb b o hb e) f0 f1 f3 f4 f5⟩
 self:=fun _ _ _ _ _ ⟨_,_,st⟩ h=>PySem.W.kcp_self st h
section
variable {X:Cx} {apos cpos pos:Pos} {d:Expr} {td:TE} {elts:List Expr} {kk:Nat}
def YB (td:TE):TI:=fun σ H R=>td σ H fun x H1=>∃ a kvs,x=.ref a/\Rd H1 a (.dK kvs)/\∀ (o:Obj) (H2:Hp),H2 a=some (.iQ o (.dK kvs))->tM H1 H2->(∀ b,b≠a->H2 b=H1 b)->R (Iti a o kvs) H2
theorem Qn (hl:PE X d td) (hbase:attributeBase d "items" X.env (eval d X.env)=eval d X.env:=by rfl) (hline:(apos.endLine == cpos.line)=true:=by rfl) :
   PI X (.Tuple elts kk pos) (.Call (.Attribute d "items" apos) [] [] cpos) (YB td):=by
 intro pins s σ H R I h
 refine wpAny_Call_method0_late hbase hline (cY (hl pins s σ H _ I h) fun v s1 ⟨x,H1,I1,r1,q1⟩=>?_)
 obtain ⟨a,kvs,e,hq,q⟩:=q1
 subst e
 cases r1
 obtain ⟨o,H2,I2,e2,sf,oth⟩:∃ o H2,Inv X pins σ H2 s1/\H2 a=some (.iQ o (.dK kvs))/\tM H1 H2/\∀ b,b≠a->H2 b=H1 b:=by
   rcases hq with hq | ⟨o,hq⟩
   . obtain ⟨o,I2⟩:=I1.freeze hq
     refine ⟨o,_,I2,ao,fun b u e=>?_,fun b hb=>aB hb⟩
     by_cases z:b=a
     . subst z
       rw [hq] at e
       cases e
       exact .inr ⟨kvs,o,rfl,ao⟩
     . exact .inl (by rw [aB z]; exact e)
   . exact ⟨o,H1,I1,hq,tM.refl _,fun _ _=>rfl⟩
 obtain ⟨vs,es,ep,rel,ds,dd,hat⟩:=I2.iQ e2
 have tI:=Ae I2 (.inl ⟨kvs,.inr ⟨o,e2⟩⟩)
 refine ⟨"dict","dict.items",PySem.F.plainAttrs_dict,PySem.F.slot_dict_items,PySem.F.type_dict_items,tI.1,tI.2.1,Calls.callWith_builtin rfl (PySem.evalArgs_none ?_)⟩
 refine call_meetsIn PySem.F.slot_dict_items tI.1 PySem.F.entry_dict_items (PySem.F.args_dict_items_1 _) (meets_dict_items (aK X.prog X.w) a ds) ⟨⟨vs,hat.dictOf⟩,?_⟩
 have I3:Inv X pins σ H2 { s1 with heap:=s1.heap.push { cls:=.type "dict_items",data:=.fields #[.ref a] } }:=I2.kept (t':=s1.toks) fun b o e=>Heap.get?_push_of_some _ e
 have hat3:=hat.push { cls:=.type "dict_items",data:=.fields #[.ref a] }
 refine wpAny_pyIter_items (s:={ s1 with heap:=s1.heap.push { cls:=.type "dict_items",data:=.fields #[.ref a] } }) ⟨_,Heap.get?_push_size _ rfl,rfl,rfl⟩ hat3 ?_
 refine ⟨_,[_],_,_,H2,rfl,I3.kept (t':=s1.toks) fun b o e=>Heap.get?_push_of_some _ e,Gb a _ o es ep kvs dd,⟨.none,.none,by rw [rel.length]; exact Heap.get?_push_size _ rfl⟩,fun b hb=>?_,q o H2 e2 sf oth⟩
 have e:=List.mem_singleton.mp hb
 subst e
 exact I3.zU (Nat.le_refl _) (I3.hok.fresh (Nat.le_refl _))
end
theorem K9 {a:Addr} {o:Obj} {kvs:List (Key × V)} {g:TG} {tb:TS} {D:Ends} {σ:St} {H:Hp} (Pv:Nat->St->Hp->Prop) (h0:Pv 0 σ H) (hl:∀ i σ H,i<=kvs.length->Pv i σ H->H a=some (.iQ o (.dK kvs)))
   (hs:∀ i k x T σ H,kvs[i]?=some (k,x)->Pv i σ H->H T=none->g (.ref T) σ (upd H T (.tup [kV k,x])) fun σ2 H2=>tb { D with nx:=Pv (i+1),ct:=Pv (i+1),bk:=D.nx } σ2 H2) (hd:∀ σ H,Pv kvs.length σ H->D.nx σ H) :
   ∃ W:Nat->Nat->St->Hp->Prop,(∃ m,W 0 m σ H)/\∀ i m σ H,W i m σ H ->
     ((Iti a o kvs).stop i H/\D.nx σ H)∨((Iti a o kvs).go i H/\∃ N:St->Hp->Prop,(∀ σ' H',N σ' H'->∃ m',m'<m/\W (i+1) m' σ' H')/\∀ x H',(Iti a o kvs).Tg i H x H'->g x σ H' fun σ2 H2=>tb { D with nx:=N,ct:=N,bk:=D.nx } σ2 H2):=by
 refine ⟨fun i m σ H=>m=kvs.length-i/\i<=kvs.length/\Pv i σ H,⟨kvs.length,by simp,Nat.zero_le _,h0⟩,?_⟩
 rintro i m σ H ⟨rfl,hi,p⟩
 have q:=hl i σ H hi p
 by_cases hlt:i<kvs.length
 . refine .inr ⟨⟨q,hlt⟩,Pv (i+1),fun σ' H' p'=>⟨kvs.length-(i+1),by omega,rfl,hlt,p'⟩,fun x H' y=>?_⟩
   obtain ⟨T,k,x',fT,rfl,hx,rfl⟩:=y
   exact hs i k x' T σ H hx p fT
 . have e:i=kvs.length:=by omega
   subst e
   exact .inl ⟨⟨q,Nat.le_refl _⟩,hd σ H p⟩
end L2
namespace L2
open PySem PySem.Spec PyProof.Rows
def YC (d:Addr) (o:Obj) (kvs:List (List Key × V)):It:=⟨fun i H=>H d=some (.iQ o (.dT kvs))/\i<kvs.length,fun i H v H'=>H'=H/\∃ k x b,kvs[i]?=some (k,x)/\v=.ref b/\H b=some (.tup (k.map kV)),fun i H=>H d=some (.iQ o (.dT kvs))/\i=kvs.length⟩
section
variable {X:Cx} {pins:List (Addr × Obj)} {σ:St} {H:Hp} {s:Shared}
theorem Inv.Vc {a:Addr} {kvs:List (List Key × V)} (I:Inv X pins σ H s) (h:H a=some (.dT kvs)):∃ o,Inv X pins σ (upd H a (.iQ o (.dT kvs))) s:=by
 obtain ⟨z,d,xs,rel,o,es,ep,e,r⟩:=(show bQ X.prog X.w H s.heap a (.dT kvs) from I.hok a _ h)
 refine ⟨o,I.write (t':=s.toks) (h':=s.heap) (e:=a) (by rw [h]; exact True.intro) (.inl rfl) (fun b u _ q=>q) ⟨o,e⟩ ⟨e,z,d,xs,?_,o,es,ep,e,r⟩⟩
 exact KT.keeps rel fun b ys q=>by
   have n:b≠a:=fun z=>by subst z; rw [h] at q; cases q
   rw [aB n]; exact q
theorem Inv.YD {a:Addr} {o:Obj} {kvs:List (List Key × V)} (I:Inv X pins σ H s) (h:H a=some (.iQ o (.dT kvs))):∃ xs es ep,KT H kvs xs/\(a == sysModules)=false/\o.data=.dict es ep/\xX s.heap a es ep/\es.toList=xs.map (entryOfKey (tupleKind (aK X.prog X.w))):=by
 obtain ⟨e,z,d,xs,rel,o',es,ep,e',ex,dd,el,_⟩:=(show bQ X.prog X.w H s.heap a (.iQ o (.dT kvs)) from I.hok a _ h)
 rw [e] at e'
 cases e'
 exact ⟨xs,es,ep,rel,d,dd,⟨o,e,ex,dd⟩,el⟩
end
theorem Ge {P:Program} {w:World} {K:PySem.W.Frag} {tg:Expr} (d it:Addr) (o:Obj) (es:Array DictEntry) (ep:Nat) (kvs:List (List Key × V)) (hd:o.data=.dict es ep) :
   Turn P w K tg (YC d o kvs) [it] it (fun i h=>h.IsKeyIter it d i kvs.length ep) where
 mem:=by simp
 obj:=fun i h st b hb=>by
   have e:b=it:=by simpa using hb
   subst e
   obtain ⟨o,e,c,dd⟩:=st
   exact ⟨o,e,fun v z=>by rw [dd] at z; cases z⟩
 keep:=fun i h h' st k=>st.at fun o e=>k it (by simp) o e
 item:=by
   intro X hP hw hK hc i pins s σ H E I hf st hg
   subst hP hw hK
   obtain ⟨f0,f1,f2,f3,f4,f5⟩:=hf it (by simp)
   obtain ⟨hd',lt⟩:=hg
   obtain ⟨xs,es',ep',rel,_,dd,hat,el⟩:=I.YD hd'
   rw [hd] at dd
   cases dd
   have lv:=rel.length
   have le:es.size=kvs.length:=by rw [<- Array.length_toList,el,List.length_map,lv]
   have lx:i<xs.length:=by omega
   obtain ⟨⟨k,x⟩,hy,e1,e2,_⟩:=fj rel (List.getElem?_eq_getElem lx)
   rw [<- le] at st
   refine Il st hat (by omega) fun h' hit' hs'=>?_
   have I1:Inv X pins σ H { s with heap:=h',toks:=s.toks }:=I.turned (fun b o hb e=>hs'.extBut b o hb e) f0 f1 f3 f4 f5
   rw [le] at hit'
   obtain ⟨oi,ei,ci,di⟩:=id hit'
   have ek:(es[i]'(by omega)).key=.ref xs[i].2.1:=by
     have z:es.toList[i]?=some (es[i]'(by omega)):=by rw [Array.getElem?_toList]; exact Array.getElem?_eq_getElem _
     rw [el,List.getElem?_map,List.getElem?_eq_getElem lx] at z
     rw [<- Option.some.inj z]
     rfl
   exact ⟨_,rfl,sW (s:={ s with heap:=h' }) (n:="dict_keyiterator") ei ci di (by decide) ⟨.ref xs[i].2.1,H,I1,ek,⟨rfl,k,x,_,hy,rfl,e2⟩,hit',fun b hb=>(hf b hb).1⟩⟩
 done:=by
   intro X hP hw hK hc i pins s σ H E I hf st hg
   subst hP hw hK
   obtain ⟨f0,f1,f2,f3,f4,f5⟩:=hf it (by simp)
   obtain ⟨hd',le'⟩:=hg
   obtain ⟨xs,es',ep',rel,_,dd,hat,el⟩:=I.YD hd'
   rw [hd] at dd
   cases dd
   have lv:=rel.length
   have le:es.size=kvs.length:=by rw [<- Array.length_toList,el,List.length_map,lv]
   rw [le',<- le] at st
   exact Om (I.ok.hd hc) st hat fun h' eb=>⟨rfl,I.turned (t':=s.toks) (fun b o hb e=>eb b o hb e) f0 f1 f3 f4 f5⟩
 self:=fun _ _ _ _ _ st h=>wpAny_pyIter_keyiter st h
section
variable {X:Cx} {tg l:Expr} {tl:TE}
def YF (tl:TE):TI:=fun σ H R=>tl σ H fun x H1=>∃ a kvs,x=.ref a/\H1 a=some (.dT kvs)/\∀ (o:Obj),R (YC a o kvs) (upd H1 a (.iQ o (.dT kvs)))
theorem Qo (hl:PE X l tl):PI X tg l (YF tl):=by
 intro pins s σ H R I h
 refine cY (hl pins s σ H _ I h) fun v s1 ⟨x,H1,I1,r1,q1⟩=>?_
 obtain ⟨a,kvs,e,hq,q⟩:=q1
 subst e
 cases r1
 obtain ⟨o,I2⟩:=I1.Vc hq
 obtain ⟨xs,es,ep,rel,ds,dd,hat,el⟩:=I2.YD ao
 have le:es.size=kvs.length:=by rw [<- Array.length_toList,el,List.length_map,rel.length]
 refine Ik ds hat ?_
 refine ⟨s1.heap.objs.size,[s1.heap.objs.size],_,_,_,rfl,I2.kept (t':=s1.toks) fun b o e=>Heap.get?_push_of_some _ e,Ge a _ o es ep kvs dd,⟨_,Heap.get?_push_size _ rfl,rfl,by rw [<- le]; rfl⟩,fun b hb=>?_,q o⟩
 have e:=List.mem_singleton.mp hb
 subst e
 exact I2.zU (Nat.le_refl _) (I2.hok.fresh (Nat.le_refl _))
variable {H1:Hp} {D:Addr} {σ0:St} {g:BI->TG} {tt:BI->TT} {te:BI->TE} {End:Hp->Prop}
theorem Gf {a:Addr} {o:Obj} {kvs:List (List Key × V)} (Pv:Nat->Hp->Prop) (h0:Pv 0 (upd H1 D (.lst []))) (hl:∀ i H,i<=kvs.length->Pv i H->H a=some (.iQ o (.dT kvs))) (stop:∀ H,Pv kvs.length H->End H)
   (turn:∀ i k x b' H,kvs[i]?=some (k,x)->H b'=some (.tup (k.map kV))->i<kvs.length->Pv i H->∀ b,g b (.ref b') σ0 H fun σ2 H2=>tt b σ2 H2 fun c H3=>if c=true then jP D (te b) σ2 H3 (Nx kvs.length i Pv) else Nx kvs.length i Pv H3) :
   ∃ W:Nat->Nat->Hp->Prop,(∃ m,W 0 m (upd H1 D (.lst [])))/\∀ b,jE (YC a o kvs) (g b) (tt b) (jP D (te b)) σ0 End W :=
 nG kvs.length Pv h0 (fun H p=>⟨⟨hl _ H (Nat.le_refl _) p,rfl⟩,stop H p⟩) fun i H hi p =>
   ⟨⟨hl i H (Nat.le_of_lt hi) p,hi⟩,fun x H' ⟨e,k,y,b',hy,ex,eb⟩ b=>by subst e ex; exact turn i k y b' _ hy eb hi p b⟩
end
end L2
namespace L2
open PySem PySem.Spec PyProof.Rows PySem.W
section
variable {prog:Program} {w:World} {A:Around} {E:Value->Shared->Prop} {s:Shared}
theorem wz {x:Value} {ns:List Int} {Q:Value->Shared->Prop} (h64:ns.length<64)
   (col:∀ (R:List Value->Shared->Prop),(∀ (h':Heap) (tk:Nat) (vs:List Value),(∀ b o,s.heap.get? b=some o->h'.get? b=some o)->IntsAre vs ns->vs.length=ns.length->R vs { s with heap:=h',toks:=tk })->wpAny (model prog w) A.in1 (collect x) R E s)
   (h:∀ (h1 h':Heap) (tk:Nat) (out:List Value) (ns':List Int) (n:Nat),(∀ b o,s.heap.get? b=some o->h1.get? b=some o)->(∀ b o,h1.get? b=some o->h'.get? b=some o)->h'.get? h1.objs.size=some (seqObj "list" out.toArray n)->IntsAre out ns'->ns'.Perm ns->ns'.Pairwise (·<=·)->Q (.ref h1.objs.size) { s with heap:=h',toks:=tk }) :
   wpAny (model prog w) A (call (.builtin "sorted") [x]) Q E s:=by
 refine Calls.call_function_entry kind_sorted plain_sorted entry_sorted (args_sorted1 _) ?_
 unfold Builtin.«sorted»
 refine wpAny_bind (m:=checkCount "sorted" 1 1 _) (wpAny_pure ?_)
 refine wpAny_bind (col _ fun h' tk vs kk hS hl=>?_)
 have mC:sizeLine=16777216:=sizeLine_eq
 refine wpAny_bind (wpAny_newList ?_ (by omega))
 have g0:(h'.push (seqObj "list" vs.toArray 0)).get? h'.objs.size=some (seqObj "list" vs.toArray 0):=Heap.get?_push_size _ rfl
 refine wpAny_bind (wpAny_holding (wpAny_call_entry slot_list_sort (s:={ s with heap:=h'.push (seqObj "list" vs.toArray 0),toks:=tk }) ⟨_,g0,rfl⟩ entry_list_sort
   (list_sort_tree (s:={ s with heap:=h'.push (seqObj "list" vs.toArray 0),toks:=tk }) g0 hS (by omega) fun out ns' q1 q2 q3=>⟨_,rfl,?_⟩) (args_list_sort _)))
 obtain ⟨n,hn⟩:=sortedHeap_at (vs:=vs) (out:=out) g0
 refine wpAny_pure ⟨_,rfl,h h' _ tk out.toList ns' n kk (fun b o e1=>?_) (by rw [Array.toArray_toList]; exact hn) q1 q2 q3⟩
 have lt:b<h'.objs.size:=Heap.lt_size e1
 show (sortedHeap (h'.push (seqObj "list" vs.toArray 0)) h'.objs.size vs _).get? b=some o
 rw [sortedHeap_old (Nat.ne_of_lt lt) (by rw [Heap.size_push]; exact Nat.lt_succ_of_lt lt)]
 exact Heap.get?_push_of_some _ e1
end
section
variable {X:Cx}
theorem Jf:∀ {ns:List Int} {us:List Value},IntsAre us ns->Vals (ns.map V.int) us:=by
 intro ns us h
 induction h with
 | nil=>exact .nil
 | cons x t _ ih=>exact .cons ⟨t,rfl⟩ ih
theorem Bm:∀ {ns:List Int} {us:List Value},us.length=ns.length->(∀ (i:Nat) (v:Value),us[i]?=some v->∃ x t,ns[i]?=some x/\v=.int x t)->IntsAre us ns
 | [],[],_,_=>.nil
 | x :: ns,u :: us,hl,h=>by
   obtain ⟨y,t,e,rfl⟩:=h 0 u rfl
   cases (show some x=some y from e)
   exact .cons x t (Bm (by simpa using hl) fun i v e=>h (i+1) v (by simpa using e))
 | [],_ :: _,hl,_=>by simp at hl
 | _ :: _,[],hl,_=>by simp at hl
theorem yd (hc:X.calm=true):dM X (.builtin "sorted") (fun xs H Q=>∃ (p:Addr) (kvs:List (Key × V)) (ns:List Int),xs=[.ref p]/\H p=some (.dK kvs)/\kvs.map (·.1)=ns.map (fun i=>(Sum.inl (some i):Key))/\ns.length<64/\∀ (l:Addr) (ns':List Int),H l=none->ns'.Perm ns->ns'.Pairwise (·<=·)->Q (.ref l) (upd H l (.lst (ns'.map V.int)))):=by
 intro pins s σ H xs us Q I r h
 obtain ⟨p,kvs,ns,rfl,hp,hk,h64,q⟩:=h
 obtain ⟨u,rfl,ru⟩:=vals1 r
 cases ru
 obtain ⟨z,d,vs,rel,dd⟩:=vd I.hok hp
 have hl:kvs.length=ns.length:=by have:=congrArg List.length hk; simpa using this
 have hvl:vs.length=ns.length:=by rw [<- rel.length]; exact hl
 have mC:sizeLine=16777216:=sizeLine_eq
 obtain ⟨ep,hat⟩:=dd.dictAt
 refine wz h64 (fun R hR=>PySem.W.kdu_collect (A:=X.A.in1) (PySem.W.kdl_dict (knd:=aK X.prog X.w) (kvs:=vs) (ep:=ep) d) (by simpa using I.ok.hd hc) hat (by omega) fun h' tk acc kk hacc=>?_) fun h1 h' tk out ns' n k1 k2 ho hS hp2 hs=>?_
 . have al:acc.toList.length=ns.length:=by rw [Array.length_toList]; exact hacc.1.trans hvl
   refine hR h' tk acc.toList kk (Bm al fun i v e=>?_) al
   obtain ⟨k,x,ek,hk'⟩:=hacc.2 i v (by simpa using e)
   have ek2:(kvs.map (·.1))[i]?=some k:=by
     rw [rel.keys,List.getElem?_map,ek]; rfl
   rw [hk,List.getElem?_map] at ek2
   cases es:ns[i]? with
   | none=>rw [es] at ek2; cases ek2
   | some y =>
     rw [es] at ek2
     cases (show some (Sum.inl (some y):Key)=some k from ek2)
     rcases bO (show jB (Sum.inl (some y)) v=true from hk') with ⟨j,t,e1,e2⟩ | ⟨x',t,e1,e2⟩ | ⟨e1,e2⟩
     . cases e1
       exact ⟨y,t,rfl,e2⟩
     . cases e1
     . cases e1
 . have I1:Inv X pins σ H { s with heap:=h1,toks:=tk }:=I.kept k1
   have hl':ns'.length=ns.length:=hp2.length_eq
   exact ⟨.ref h1.objs.size,_,I1.laid (t':=tk) (o:=.lst (ns'.map V.int)) k2 (Nat.le_refl _) ⟨by rw [List.length_map]; omega,out,n,Jf hS,ho⟩,rfl,q _ _ (I1.hok.fresh (Nat.le_refl _)) hp2 hs⟩
end
end L2
namespace L2
open PySem PySem.Spec PyProof.Rows PySem.W
def tabI (led:Bool) (ns:List Nat):SetTable:={ mask:=7,place:=ns.toArray,dummies:=#[],finger:=0,led:=led,moves:=0,plain:=true }
def nj:List Nat->List (Int × Value)->Prop:=Paired fun n e=>∃ t,e=((n:Int),Value.int (n:Int) t)
def bR (p:Nat->Bool):List Nat:=[1,3,5].filter p
def fH (w:World):Bool:=w.params.followText "set-order"
def iY (w:World) (h:Heap) (a:Addr) (p:Nat->Bool) (ep:Nat):Prop:=∃ o es,h.get? a=some o/\o.ExactSet/\o.data=.set es ep (tabI (!fH w) (bR p))/\nj (bR p) es.toList
theorem iw (p:Nat->Bool):bR p=(if p 1 then [1] else [])++((if p 3 then [3] else [])++(if p 5 then [5] else [])):=by
 unfold bR
 cases h1:p 1 <;> cases h3:p 3 <;> cases h5:p 5 <;> simp [h1,h3,h5]
theorem dO {l:List (Int × Value)} (h:nj [] l):l=[]:=by cases h; rfl
theorem cR {n:Nat} {ns:List Nat} {l:List (Int × Value)} (h:nj (n :: ns) l):∃ t l',l=((n:Int),Value.int (n:Int) t) :: l'/\nj ns l':=by
 cases h with
 | cons h r=>obtain ⟨t,rfl⟩:=h; exact ⟨t,_,rfl,r⟩
theorem Qp {n:Nat} (h:n∈[1,3,5]):hashInt (n:Int)=(n:Int):=by
 simp only [List.mem_cons,List.not_mem_nil,or_false] at h
 rcases h with rfl | rfl | rfl <;> decide +kernel
theorem Jg {prog:Program} {w:World}:∀ {ns:List Nat} {l:List (Int × Value)},nj ns l->(∀ n∈ns,n∈[1,3,5])->ElemsOf (intKind prog w) l
 | [],l,h,_=>by rw [dO h]; intro e he; cases he
 | n :: ns,l,h,hn=>by
   obtain ⟨t,l',rfl,r⟩:=cR h
   intro e he
   rcases List.mem_cons.mp he with rfl | he
   . exact ⟨⟨(n:Int),by simp [intKind,Value.isInt],(Qp (hn n List.mem_cons_self)).symm⟩,rfl⟩
   . exact Jg r (fun m hm=>hn m (List.mem_cons_of_mem _ hm)) e he
theorem Qq {p:Nat->Bool}:∀ n∈bR p,n∈[1,3,5]:=fun n hn=>(List.mem_filter.mp hn).1
theorem lu {led:Bool} {p:Nat->Bool} {es:Array (Int × Value)} (h:nj (bR p) es.toList):(tabI led (bR p)).fits es.size=true:=by
 have l:=Paired.length h
 have l3:(bR p).length<=3:=List.length_filter_le _ _
 unfold SetTable.fits tabI SetTable.fill
 simp only [List.size_toArray,Bool.and_eq_true,beq_iff_eq,decide_eq_true_eq]
 rw [Array.length_toList] at l
 exact ⟨l,by show (bR p).length+0<=7; omega⟩
theorem agS {led:Bool} {p:Nat->Bool} {es:Array (Int × Value)} (h:nj (bR p) es.toList) {n:Nat} (hn:n∈[1,3,5]) (hp:p n=false) (t:Tok) :
   ∃ es',layNew (tabI led (bR p)) es (n:Int) (Value.int (n:Int) t)=(es',tabI led (bR fun k=>p k || decide (k=n)),false,false)/\nj (bR fun k=>p k || decide (k=n)) es'.toList:=by
 obtain ⟨l⟩:=es
 simp only [List.mem_cons,List.not_mem_nil,or_false] at hn
 rw [iw] at h
 rw [iw,iw]
 have key:∀ b1 b3 b5:Bool,(n=1/\b1=false∨n=3/\b3=false∨n=5/\b5=false)->nj ((if b1 then [1] else [])++((if b3 then [3] else [])++(if b5 then [5] else []))) l ->
     ∃ es',layNew (tabI led ((if b1 then [1] else [])++((if b3 then [3] else [])++(if b5 then [5] else [])))) ⟨l⟩ (n:Int) (Value.int (n:Int) t) =
       (es',tabI led ((if b1 || decide (1=n) then [1] else [])++((if b3 || decide (3=n) then [3] else [])++(if b5 || decide (5=n) then [5] else []))),false,false) /\
       nj ((if b1 || decide (1=n) then [1] else [])++((if b3 || decide (3=n) then [3] else [])++(if b5 || decide (5=n) then [5] else []))) es'.toList:=by
   intro b1 b3 b5 hb hl
   rcases hb with ⟨rfl,rfl⟩ | ⟨rfl,rfl⟩ | ⟨rfl,rfl⟩
   . cases b3 <;> cases b5 <;> simp only [Bool.false_eq_true,if_false,if_true,List.nil_append,List.append_nil,List.cons_append] at hl
     . cases dO hl
       exact ⟨#[(((1:Nat):Int),Value.int ((1:Nat):Int) t)],by kernel_rfl,(.cons ⟨t,rfl⟩ .nil)⟩
     . obtain ⟨t5,l5,rfl,r5⟩:=cR hl
       cases dO r5
       exact ⟨#[(((1:Nat):Int),Value.int ((1:Nat):Int) t),(((5:Nat):Int),Value.int ((5:Nat):Int) t5)],by kernel_rfl,(.cons ⟨t,rfl⟩ (.cons ⟨t5,rfl⟩ .nil))⟩
     . obtain ⟨t3,l3,rfl,r3⟩:=cR hl
       cases dO r3
       exact ⟨#[(((1:Nat):Int),Value.int ((1:Nat):Int) t),(((3:Nat):Int),Value.int ((3:Nat):Int) t3)],by kernel_rfl,(.cons ⟨t,rfl⟩ (.cons ⟨t3,rfl⟩ .nil))⟩
     . obtain ⟨t3,l3,rfl,r3⟩:=cR hl
       obtain ⟨t5,l5,rfl,r5⟩:=cR r3
       cases dO r5
       exact ⟨#[(((1:Nat):Int),Value.int ((1:Nat):Int) t),(((3:Nat):Int),Value.int ((3:Nat):Int) t3),(((5:Nat):Int),Value.int ((5:Nat):Int) t5)],by kernel_rfl,(.cons ⟨t,rfl⟩ (.cons ⟨t3,rfl⟩ (.cons ⟨t5,rfl⟩ .nil)))⟩
   . cases b1 <;> cases b5 <;> simp only [Bool.false_eq_true,if_false,if_true,List.nil_append,List.append_nil,List.cons_append] at hl
     . cases dO hl
       exact ⟨#[(((3:Nat):Int),Value.int ((3:Nat):Int) t)],by kernel_rfl,(.cons ⟨t,rfl⟩ .nil)⟩
     . obtain ⟨t5,l5,rfl,r5⟩:=cR hl
       cases dO r5
       exact ⟨#[(((3:Nat):Int),Value.int ((3:Nat):Int) t),(((5:Nat):Int),Value.int ((5:Nat):Int) t5)],by kernel_rfl,(.cons ⟨t,rfl⟩ (.cons ⟨t5,rfl⟩ .nil))⟩
     . obtain ⟨t1,l1,rfl,r1⟩:=cR hl
       cases dO r1
       exact ⟨#[(((1:Nat):Int),Value.int ((1:Nat):Int) t1),(((3:Nat):Int),Value.int ((3:Nat):Int) t)],by kernel_rfl,(.cons ⟨t1,rfl⟩ (.cons ⟨t,rfl⟩ .nil))⟩
     . obtain ⟨t1,l1,rfl,r1⟩:=cR hl
       obtain ⟨t5,l5,rfl,r5⟩:=cR r1
       cases dO r5
       exact ⟨#[(((1:Nat):Int),Value.int ((1:Nat):Int) t1),(((3:Nat):Int),Value.int ((3:Nat):Int) t),(((5:Nat):Int),Value.int ((5:Nat):Int) t5)],by kernel_rfl,(.cons ⟨t1,rfl⟩ (.cons ⟨t,rfl⟩ (.cons ⟨t5,rfl⟩ .nil)))⟩
   . cases b1 <;> cases b3 <;> simp only [Bool.false_eq_true,if_false,if_true,List.nil_append,List.append_nil,List.cons_append] at hl
     . cases dO hl
       exact ⟨#[(((5:Nat):Int),Value.int ((5:Nat):Int) t)],by kernel_rfl,(.cons ⟨t,rfl⟩ .nil)⟩
     . obtain ⟨t3,l3,rfl,r3⟩:=cR hl
       cases dO r3
       exact ⟨#[(((3:Nat):Int),Value.int ((3:Nat):Int) t3),(((5:Nat):Int),Value.int ((5:Nat):Int) t)],by kernel_rfl,(.cons ⟨t3,rfl⟩ (.cons ⟨t,rfl⟩ .nil))⟩
     . obtain ⟨t1,l1,rfl,r1⟩:=cR hl
       cases dO r1
       exact ⟨#[(((1:Nat):Int),Value.int ((1:Nat):Int) t1),(((5:Nat):Int),Value.int ((5:Nat):Int) t)],by kernel_rfl,(.cons ⟨t1,rfl⟩ (.cons ⟨t,rfl⟩ .nil))⟩
     . obtain ⟨t1,l1,rfl,r1⟩:=cR hl
       obtain ⟨t3,l3,rfl,r3⟩:=cR r1
       cases dO r3
       exact ⟨#[(((1:Nat):Int),Value.int ((1:Nat):Int) t1),(((3:Nat):Int),Value.int ((3:Nat):Int) t3),(((5:Nat):Int),Value.int ((5:Nat):Int) t)],by kernel_rfl,(.cons ⟨t1,rfl⟩ (.cons ⟨t3,rfl⟩ (.cons ⟨t,rfl⟩ .nil)))⟩
 refine key (p 1) (p 3) (p 5) ?_ h
 rcases hn with rfl | rfl | rfl
 . exact .inl ⟨rfl,hp⟩
 . exact .inr (.inl ⟨rfl,hp⟩)
 . exact .inr (.inr ⟨rfl,hp⟩)
section
variable {prog:Program} {w:World} {A:Around} {E:Value->Shared->Prop} {s:Shared}
theorem agT {a:Addr} {p:Nat->Bool} {ep n:Nat} {t:Tok} {Q:Bool->Shared->Prop} (hn:n∈[1,3,5]) (hS:iY w s.heap a p ep)
   (h:∀ h' b ep',Heap.SameBut a s.heap h'->iY w h' a (fun k=>p k || decide (k=n)) ep'->Q b { s with heap:=h' }) :
   wpAny (model prog w) A (setAddHashed a (.int (n:Int) t) (n:Int)) Q E s:=by
 obtain ⟨o,es,ho,hex,hd,hel⟩:=hS
 have hE:=Jg (prog:=prog) (w:=w) hel Qq
 have hf:=lu (led:=!fH w) hel
 have hb:es.size<scanBound:=by
   have l:(bR p).length=es.size:=by rw [<- Array.length_toList]; exact Paired.length hel
   have l3:(bR p).length<=3:=List.length_filter_le _ _
   show es.size<4096
   omega
 have hkey:(intKind prog w).is (n:Int) (.int (n:Int) t)=true:=by simp [intKind,Value.isInt]
 have hh:(intKind prog w).hash (n:Int)=(n:Int):=Qp hn
 unfold setAddHashed setAddHashedIn
 refine wpAny_holding (wpAny_bind (wpAny_setState_of ho hd hf ?_))
 dsimp only
 rw [byScan_of (knd:=intKind prog w) rfl hb hE]
 simp only [↓reduceIte]
 unfold setAddByScan
 refine wpAny_bind ?_
 refine wpAny_bind (wpAny_rule ?_)
 have sc:∀ Q:ScanMet->Shared->Prop,Q (match es.toList.findIdx? (fun e=>(intKind prog w).is (n:Int) e.2) with | some j=>.found (0+j) | none=>.absent) s->wpAny (model prog w) A (setScan a (.int (n:Int) t) (n:Int) true es) Q E s:=fun Q q=>by
   have z:=wpAny_setScan_of (A:=A) (E:=E) (adding:=true) hkey ho hd hf hE q
   rw [hh] at z
   exact z
 refine wpAny_bind (sc _ ?_)
 have mem:∀ {ns:List Nat} {l:List (Int × Value)},nj ns l->((∃ e∈l,(intKind prog w).is (n:Int) e.2=true)↔n∈ns):=by
   intro ns l hl
   induction hl with
   | nil=>simp
   | @cons m e ms es h r ih =>
     obtain ⟨t',rfl⟩:=h
     simp only [List.mem_cons]
     constructor
     . rintro ⟨e,he | he,hk⟩
       . subst he
         refine .inl ?_
         simp [intKind,Value.isInt] at hk
         omega
       . exact .inr (ih.mp ⟨e,he,hk⟩)
     . rintro (rfl | hm)
       . exact ⟨_,.inl rfl,by simp [intKind,Value.isInt]⟩
       . obtain ⟨e,he,hk⟩:=ih.mpr hm
         exact ⟨e,.inr he,hk⟩
 have hpn:p n=true↔n∈bR p:=⟨fun z=>List.mem_filter.mpr ⟨hn,z⟩,fun z=>(List.mem_filter.mp z).2⟩
 cases hr:List.findIdx? (fun e=>(intKind prog w).is (n:Int) e.2) es.toList with
 | some j =>
   dsimp only
   obtain ⟨hj,hpj,_⟩:=List.findIdx?_eq_some_iff_getElem.mp hr
   have hSk:p n=true:=hpn.mpr ((mem hel).mp ⟨es.toList[j],List.getElem_mem hj,hpj⟩)
   refine wpAny_pure (wpAny_pure ?_)
   have e:s={ s with heap:=s.heap }:=by cases s; rfl
   have ef:(fun k=>p k || decide (k=n))=p:=funext fun k=>by
     by_cases z:k=n
     . subst z; rw [hSk]; rfl
     . rw [decide_eq_false z,Bool.or_false]
   rw [e]
   refine h s.heap _ ep (Heap.SameBut.refl a s.heap) ?_
   rw [ef]
   exact ⟨o,es,ho,hex,hd,hel⟩
 | none =>
   dsimp only
   have hSk:p n=false:=by
     cases hk:p n with
     | false=>rfl
     | true =>
       obtain ⟨e,he,hp⟩:=(mem hel).mpr (hpn.mp hk)
       have:=List.findIdx?_eq_none_iff.mp hr e he
       rw [hp] at this
       exact Bool.noConfusion this
   obtain ⟨es',eL,abQ⟩:=agS (led:=!fH w) hel hn hSk t
   rw [eL]
   dsimp only
   refine wpAny_bind (wpAny_pure ?_)
   have pl:(tabI (!fH w) (bR fun k=>p k || decide (k=n))).plain=true:=rfl
   simp only [pl,if_true]
   refine wpAny_bind (wpAny_of_eq (hashByValue_scannable 8 (x:=.int (n:Int) t) rfl) ?_)
   simp only [show plainKind (.int (n:Int) t)=true from rfl,if_true]
   have hz:es'.size<=sizeLine:=by
     have l:(bR fun k=>p k || decide (k=n)).length=es'.size:=by rw [<- Array.length_toList]; exact Paired.length abQ
     have l3:(bR fun k=>p k || decide (k=n)).length<=3:=List.length_filter_le _ _
     rw [sizeLine_eq]
     omega
   refine wpAny_bind (wpAny_storeSet_of ho hd ?_ hz)
   have full:(tabI (!fH w) (bR fun k=>p k || decide (k=n))).tooFull=false:=by
     have l3:(bR fun k=>p k || decide (k=n)).length<=3:=List.length_filter_le _ _
     unfold SetTable.tooFull SetTable.fill tabI
     simp only [List.size_toArray,decide_eq_false_iff_not]
     show ¬ (((bR fun k=>p k || decide (k=n)).length+0) * 5 ≥ 7 * 3)
     omega
   simp only [full,Bool.and_false,Bool.false_eq_true,if_false]
   have sb:Heap.SameBut a s.heap (s.heap.update a (Obj.putSet es' (tabI (!fH w) (bR fun k=>p k || decide (k=n))))):=Heap.SameBut.update ..
   have hg:(s.heap.update a (Obj.putSet es' (tabI (!fH w) (bR fun k=>p k || decide (k=n))))).get? a=some { o with data:=.set es' (ep+1) (tabI (!fH w) (bR fun k=>p k || decide (k=n))) }:=by
     have:=Heap.get?_update_self (Obj.putSet es' (tabI (!fH w) (bR fun k=>p k || decide (k=n)))) ho (by rw [putSet_of _ _ hd]; rfl)
     rw [putSet_of _ _ hd] at this; exact this
   exact wpAny_pure (wpAny_pure (h _ _ (ep+1) sb ⟨_,es',hg,hex,rfl,abQ⟩))
end
def xP (xs:List Int) (i:Nat) (k:Nat):Bool:=decide ((k:Int)∈xs.take i)
theorem Qs {xs:List Int} {i n:Nat} (h:xs[i]?=some (n:Int)):(fun k=>xP xs i k || decide (k=n))=xP xs (i+1):=funext fun k=>by
 unfold xP
 rw [List.take_add_one,h]
 by_cases z:k=n
 . subst z; simp
 . have:¬ (k:Int)=(n:Int):=by omega
   simp [z,this]
section
variable {prog:Program} {w:World} {A:Around} {E:Value->Shared->Prop} {s:Shared}
theorem abR {R:Result->Shared->Prop} {I:Addr} {fp wr:List Addr} {G:Array GenState->Array GenState->Prop} {P:Nat->Value->Prop} {St:Nat->Shared->Prop} {ks:List Int} (W:WalksS prog w A.in1 I fp wr G ks.length P St) (Z:Addr) (nZ:Z ∉ fp)
   (T7:∀ i v,P i v->∃ (n:Nat) (t:Tok),ks[i]?=some (n:Int)/\n∈[1,3,5]/\v=.int (n:Int) t) :
   ∀ (j i:Nat) (s:Shared),ks.length-i=j->i<=ks.length->St i s->(∃ ep,iY w s.heap Z (xP ks i) ep) ->
     (∀ s',Moved (Z :: wr) G s s'->(∃ ep,iY w s'.heap Z (xP ks ks.length) ep)->R (.ok (.ret .none)) s') ->
     codeAny (model prog w) A (.builtin "set.update.loop" ⟨[.ref Z,.ref I],[]⟩) R s:=by
 have nW:Z ∉ wr:=fun z=>nZ (W.sub _ z)
 have sub:∀ b∈wr,b∈Z :: wr:=fun b z=>List.mem_cons_of_mem _ z
 intro j
 induction j with
 | zero =>
   intro i s ej ei st zS out
   have ei':i=ks.length:=by omega
   subst ei'
   refine codeAny_builtin PyProof.Rows.F.entry_set_update_loop ?_
   rw [Around.under_plainId PyProof.Rows.F.plain_set_update_loop _]
   show wpAny _ A.in1 (pyNext (.ref I) >>= _) _ _ s
   refine wpAny_bind (W.done s _ _ st fun s' mv=>?_)
   show wpAny _ A.in1 (ret Value.none) _ _ s'
   obtain ⟨ep,o,es,ho,rest⟩:=zS
   exact wpAny_pure (out s' (mv.mono sub) ⟨ep,o,es,mv.heap Z _ nW ho,rest⟩)
 | succ j ih =>
   intro i s ej ei st zS out
   have lt:i<ks.length:=by omega
   refine codeAny_builtin PyProof.Rows.F.entry_set_update_loop ?_
   rw [Around.under_plainId PyProof.Rows.F.plain_set_update_loop _]
   show wpAny _ A.in1 (pyNext (.ref I) >>= _) _ _ s
   refine wpAny_bind (W.item i s _ _ lt st fun v s' pv st' mv=>?_)
   obtain ⟨n,t,ek,hn,rfl⟩:=T7 i v pv
   have zS':∃ ep,iY w s'.heap Z (xP ks i) ep:=let ⟨ep,o,es,ho,rest⟩:=zS; ⟨ep,o,es,mv.heap Z _ nW ho,rest⟩
   obtain ⟨ep,zS'⟩:=zS'
   show wpAny _ A.in1 (holding [.int (n:Int) t] (setAdd Z (.int (n:Int) t)) >>= _) _ _ s'
   refine wpAny_bind (wpAny_holding ?_)
   unfold setAdd
   refine wpAny_holding ?_
   have hk:(intKind prog w).is (n:Int) (.int (n:Int) t)=true:=by simp [intKind,Value.isInt]
   have hh:(intKind prog w).hash (n:Int)=(n:Int):=Qp hn
   refine wpAny_bind ((intKind prog w).pyHash hk ?_)
   rw [hh]
   refine agT (s:={ s' with toks:=s'.toks+1 }) hn zS' fun h2 bb ep' sb zS2=>?_
   rw [Qs ek] at zS2
   refine wpAny_pure ⟨plainId_quiet PyProof.Rows.F.plain_set_update_loop _,ih (i+1) _ (by omega) lt (W.frame _ s' _ _ st' (Nat.le_succ _) fun b hb o e=>?_) ⟨ep',zS2⟩ fun s'' mv2 z2=>?_⟩
   . rw [sb.2 b (fun z:b=Z=>nZ (by rw [<- z]; exact hb))]; exact e
   . refine out s'' (Moved.trans W.gtrans ((mv.mono sub).then_heap (Nat.le_succ _) fun b o hb e=>?_) mv2) z2
     rw [sb.2 b (fun z:b=Z=>hb (by rw [z]; exact List.mem_cons_self))]; exact e
theorem Vd (x:Value) {Q₁:Value->Shared->Prop} (h:Q₁ (.ref s.heap.objs.size) { s with heap:=s.heap.push (jF (!fH w)) }) :
   codeAny (model prog w) A (.call (.builtin "set.__new__") ⟨[.type "set",x],[]⟩) (wants Q₁ E) s:=by
 refine codeAny_of_tree ?_
 have h0:=h
 show wpAny _ A.in1 (do checkBuiltinCall "set.__new__" ⟨[.type "set",x],[]⟩; again (.builtin "set.__new__" ⟨[.type "set",x],[]⟩)) _ _ s
 refine wpAny_bind (wpAny_of_eq (PySem.F.newCall_set_1 x) (wpAny_pure ⟨plainId_quiet PySem.F.plain_set_new _,codeAny_builtin PySem.F.entry_set_new ?_⟩))
 rw [Around.under_plainId PySem.F.plain_set_new _]
 unfold Builtin.«set.__new__»; unfold Builtin.Frozenset.newClass; have hsub:=PySem.sub_set_self
 obtain ⟨h1,g1,d1,k1,o1⟩:=s
 dsimp only
 wp_walk
 refine wpAny_askSetting (wpAny_pure (?_)); dsimp only; simp only [newObj]
 exact wpAny_bind (wpAny_alloc (wpAny_pure (wpAny_pure h0)))
end
end L2
namespace L2
open PySem PySem.Spec PyProof.Rows PySem.W
section
variable {prog:Program} {w:World} {A:Around} {E:Value->Shared->Prop} {s:Shared}
theorem abS {l:Addr} {items:Array Value} {ks:List Int} {Q:Value->Shared->Prop} (hh:A.handled=none) (hl:s.heap.IsList l items) (hz:items.size=ks.length)
   (T7:∀ (i:Nat) (v:Value),items[i]?=some v->∃ (n:Nat) (t:Tok),ks[i]?=some (n:Int)/\n∈[1,3,5]/\v=.int (n:Int) t)
   (h:∀ (h':Heap) (tk:Nat),(∃ ep,iY w h' s.heap.objs.size (xP ks ks.length) ep)->(∀ b o,s.heap.get? b=some o->h'.get? b=some o)->Q (.ref s.heap.objs.size) { s with heap:=h',toks:=tk }) :
   wpAny (model prog w) A (call (.type "set") [.ref l]) Q E s:=by
 obtain ⟨cm,tm,hmro⟩:=PySem.F.called_set.mro
 have made:=PySem.F.called_set.made
 have afv:=PySem.F.called_set.sub
 refine wpAny_call (codeAny_of_tree ?_)
 show wpAny _ _ (callAny (.type "set") _) _ _ _
 refine wpAny_pure ⟨Code.quiet_builtin _ (by decide +kernel),codeAny_builtin PySem.F.entry_type_call ?_⟩
 rw [Around.under_plain (weight_type_call_type "set" [.ref l] []) rfl]
 have c1:=PySem.F.called_set.notType
 have c2:=PySem.F.called_set.canCreate
 have c3:=PySem.F.typeCall_set_1 (.ref l)
 repeat (any_goals (first | assumption | wp_step))
 generalize hN:s.heap.objs.size=N at h
 refine codeAny_mono (Vd (.ref l) (E:=E) (Q₁:=fun ob s1=>ob=.ref s.heap.objs.size/\s1={ s with heap:=s.heap.push (jF (!fH w)) }) ⟨rfl,rfl⟩) fun r s1 hr=>?_
 cases r with
 | error e=>exact hr
 | ok fl =>
   cases fl with
   | ret ob =>
     obtain ⟨rfl,rfl⟩:=hr
     have gS:(s.heap.push (jF (!fH w))).get? s.heap.objs.size=some (jF (!fH w)):=Heap.get?_push_size _ rfl
     have hT:Shared.TypeIs { s with heap:=s.heap.push (jF (!fH w)) } (.ref s.heap.objs.size) "set":=⟨_,gS,rfl⟩
     have li:=PySem.F.called_set.init.lookup
     have bi:=PySem.F.called_set.init.bind (.ref s.heap.objs.size)
     repeat (any_goals (first | assumption | wp_step))
     refine codeAny_mono (codeAny_call_builtin (R:=wants (fun r s2=>r=.none/\∃ h' tk,s2={ s with heap:=h',toks:=tk }/\(∃ ep,iY w h' s.heap.objs.size (xP ks ks.length) ep)/\(∀ b o,s.heap.get? b=some o->h'.get? b=some o)) E)
       PySem.F.called_set.init.plain PySem.F.entry_set_init (check_set_init_1 hT ?_)) fun r2 s2 hr2=>?_
     . obtain ⟨ol,gl,cl,nl,dl⟩:=hl
       obtain ⟨oc,od,oa,os⟩:=ol
       simp only at cl dl
       subst cl dl
       have gl':(s.heap.push (jF (!fH w))).get? l=some { cls:=.type "list",dict:=od,data:=.seq items nl,slots:=os }:=Heap.get?_push_of_some _ gl
       have t1:=PySem.F.sub_list_set
       have t2:=PySem.F.sub_list_frozenset
       have t3:(Value.type "list" == Value.type "dict")=false:=by decide
       have lst:(s.heap.push (jF (!fH w))).IsList l items:=⟨_,gl',rfl,nl,rfl⟩
       unfold Builtin.«set.__init__» noKeywords Builtin.Frozenset.updateFrom
       generalize hPI:pyIter=PI
       wp_walk
       subst hPI
       refine wpAny_pyIter_list lst ?_
       refine (wpAny_bind (wpAny_runValue ?_))
       have lS:l<s.heap.objs.size:=Heap.lt_size gl
       have h3:A.in1.in1.in1.handled=none:=by simp [hh]
       have sz:(s.heap.push (jF (!fH w))).objs.size=s.heap.objs.size+1:=Heap.size_push ..
       have n1:l≠(s.heap.push (jF (!fH w))).objs.size:=by rw [sz]; exact Nat.ne_of_lt (Nat.lt_succ_of_lt lS)
       have n2:s.heap.objs.size ∉ [(s.heap.push (jF (!fH w))).objs.size,l]:=by
         rw [sz]
         intro z
         rcases List.mem_cons.mp z with z | z
         . exact absurd z (Nat.ne_of_lt (Nat.lt_succ_self _))
         . exact absurd (List.mem_singleton.mp z) (Nat.ne_of_gt lS)
       have W:=(Walks.list (prog:=prog) (w:=w) h3 _ l n1 items).toS
       rw [hz] at W
       refine abR W s.heap.objs.size n2 T7 (ks.length-0) 0 _ rfl (Nat.zero_le _) ⟨⟨_,Heap.get?_push_size _ rfl,rfl,rfl⟩,lst.push _⟩ ?_ fun s' mv z=>?_
       . have g2:((s.heap.push (jF (!fH w))).push { cls:=.type "list_iterator",data:=.fields #[.ref l,.int 0 0] }).get? s.heap.objs.size=some (jF (!fH w)):=Heap.get?_push_of_some _ gS
         exact ⟨0,_,#[],g2,⟨rfl,rfl,rfl⟩,rfl,.nil⟩
       . obtain ⟨h',g',d',tk',os'⟩:=s'
         obtain rfl:g'=s.gens:=mv.gens
         obtain rfl:d'=s.drawn:=mv.drawn
         obtain rfl:os'=s.os:=mv.os
         show wpAny _ _ _ _ _ _
         refine wpAny_pure ?_
         show wpAny _ _ (ret Value.none) _ _ _
         refine wpAny_pure ⟨rfl,h',tk',rfl,z,fun b o e=>?_⟩
         have lb:b<s.heap.objs.size:=Heap.lt_size e
         refine mv.heap b o (fun z=>?_) (Heap.get?_push_of_some _ (Heap.get?_push_of_some _ e))
         rcases List.mem_cons.mp z with z | z
         . exact absurd z (Nat.ne_of_lt lb)
         . exact absurd (List.mem_singleton.mp z) (by rw [sz]; exact Nat.ne_of_lt (Nat.lt_succ_of_lt lb))
     . cases r2 with
       | error e=>exact hr2
       | ok fl2 =>
         cases fl2 with
         | ret r =>
           obtain ⟨rfl,h',tk,rfl,zS,kk⟩:=hr2
           repeat (any_goals (first | assumption | wp_step))
           subst hN
           exact h _ _ zS kk
         | _=>exact hr2.elim
   | _=>exact hr.elim
end
end L2
namespace L2
open PySem PySem.Spec PyProof.Rows PySem.W
theorem nU:Slot "set_iterator" "__next__" "set_iterator.__next__":=.of (owner:="set_iterator") (n:="__next__") (by rw [typeLookup_type,builtinLookup_eq_fast]; kernel_rfl) (by decide +kernel) (by decide +kernel) (by decide +kernel) (by first | exact .inl (by decide +kernel) | exact .inr (by decide +kernel)) (by rw [isSubtype_type]; kernel_rfl)
theorem Jh:Slot "set_iterator" "__iter__" "set_iterator.__iter__":=.of (owner:="set_iterator") (n:="__iter__") (by rw [typeLookup_type,builtinLookup_eq_fast]; kernel_rfl) (by decide +kernel) (by decide +kernel) (by decide +kernel) (by first | exact .inl (by decide +kernel) | exact .inr (by decide +kernel)) (by rw [isSubtype_type]; kernel_rfl)
theorem zy:entryFor table "set_iterator.__next__" = some Builtin.«set_iterator.__next__»:=entryFor_of_tree (by kernel_rfl)
theorem La:entryFor table "set_iterator.__iter__" = some Builtin.«dict_keyiterator.__iter__»:=entryFor_alias (id':="dict_keyiterator.__iter__") (by kernel_rfl) rfl (by decide +kernel) (by kernel_rfl)
theorem Gg:entryFor table "set.__iter__" = some Builtin.«frozenset.__iter__»:=entryFor_alias (id':="frozenset.__iter__") (by kernel_rfl) rfl (by decide +kernel) (by kernel_rfl)
theorem Ds:Manifest.owners.lookup (String.ofList ['r','o','t','a','r','e','t','i','_','t','e','s'].reverse)=some Manifest.sig_set_iterator:=by kernel_rfl
theorem zA (a:Value):argsOk "set_iterator.__next__" ⟨[a],[]⟩:=by unfold argsOk; rw [signature?_of (id:="set_iterator.__next__") (n:=['_','_','t','x','e','n','_','_']) (o:=['r','o','t','a','r','e','t','i','_','t','e','s']) (by kernel_rfl) Ds]; kernel_rfl
theorem Lb (a:Value):argsOk "set_iterator.__iter__" ⟨[a],[]⟩:=by unfold argsOk; rw [signature?_of (id:="set_iterator.__iter__") (n:=['_','_','r','e','t','i','_','_']) (o:=['r','o','t','a','r','e','t','i','_','t','e','s']) (by kernel_rfl) Ds]; kernel_rfl
end L2
namespace L2
open PySem PySem.Spec PyProof.Rows PySem.W
def Ji (h:Heap) (it a:Addr) (slot i n ep:Nat):Prop:=h.get? it=some { cls:=.type "set_iterator",data:=.fields #[.int slot 0,.int i 0,.ref a,.int n 0,.int ep 0] }
def rP (w:World) (a:Addr) (ep:Nat) (es:Array (Int × Value)):List (Int × Value):=if fH w then (pickOrder (w.params.setOrder a ep) es).toList else es.toList
section
variable {prog:Program} {w:World} {A:Around} {E:Value->Shared->Prop} {s:Shared} {a it:Addr} {p:Nat->Bool} {ep:Nat}
theorem Bo {Q:Bool->Shared->Prop} (q:Q (fH w) s):wpAny (model prog w) A setsByText Q E s:=wpAny_bind (wpAny_askSetting (wpAny_pure q))
theorem Qt {o:Obj} {es:Array (Int × Value)} {Q:Value->Shared->Prop} (ho:s.heap.get? a=some o) (hx:o.ExactSet) (hd:o.data=.set es ep (tabI (!fH w) (bR p))) (hel:nj (bR p) es.toList)
   (q:Q (.ref s.heap.objs.size) { s with heap:=s.heap.push { cls:=.type "set_iterator",data:=.fields #[.int (0:Nat) 0,.int (0:Nat) 0,.ref a,.int es.size 0,.int ep 0] } }):wpAny (model prog w) A (pyIter (.ref a)) Q E s:=by
 have hT:s.TypeIs (.ref a) "set":=⟨o,ho,hx.1⟩
 have hf:=lu (led:=!fH w) hel
 refine wpAny_pyIter_slot hT PySem.F.slot_set_iter (wpAny_call_entry PySem.F.slot_set_iter hT Gg ?_ (PySem.F.args_set_iter_1 _))
 unfold Builtin.«frozenset.__iter__» Builtin.Frozenset.slot0
 refine wpAny_bind (wpAny_bind (wpAny_pure ?_))
 refine wpAny_pure ?_
 refine wpAny_bind ?_
 unfold Builtin.Frozenset.sizeOf
 refine wpAny_bind (wpAny_setEntries_of ho hd hf (wpAny_pure ?_))
 refine wpAny_bind (wpAny_bind (wpAny_setState_of ho hd hf ?_))
 refine wpAny_bind (Bo ?_)
 show wpAny _ _ (pure (!fH w && (!(true:Bool) && decide (es.size > 1)))) _ _ _
 rw [Bool.not_true,Bool.false_and,Bool.and_false]
 refine wpAny_pure ?_
 show wpAny _ _ (pure (rawInt 0) >>= _) _ _ _
 refine wpAny_bind (wpAny_pure ?_)
 refine wpAny_bind (wpAny_setEpoch_of ho hd hf ?_)
 exact wpAny_bind (wpAny_newObj_type (wpAny_pure ⟨_,rfl,"set_iterator",_,⟨_,Heap.get?_push_size _ rfl,rfl⟩,nU.lookup,q⟩))
theorem YG (p:Nat->Bool):∀ i,i<=(bR p).length->SetTable.below (bR p).toArray (if i=0 then 0 else (bR p).getD (i-1) 0+1)=i:=by
 rw [iw]
 generalize p 1=b1
 generalize p 3=b3
 generalize p 5=b5
 cases b1 <;> cases b3 <;> cases b5 <;> decide +kernel
def lA (w:World) (p:Nat->Bool) (i:Nat):Nat:=if fH w then 0 else if i=0 then 0 else (bR p).getD (i-1) 0+1
theorem Ww {o:Obj} {es:Array (Int × Value)} {i:Nat} (ho:s.heap.get? a=some o) (hd:o.data=.set es ep (tabI (!fH w) (bR p))) (hel:nj (bR p) es.toList) (hi:i<=es.size)
   (R:Option (Value × Nat)->Shared->Prop) (r:R (((rP w a ep es)[i]?).map fun v=>(v.2,lA w p (i+1))) s):wpAny (model prog w) A (setNext a (lA w p i) i ep) R E s:=by
 have hf:=lu (led:=!fH w) hel
 have len:(bR p).length=es.size:=by rw [<- Array.length_toList]; exact Paired.length hel
 unfold setNext
 refine wpAny_bind (wpAny_setState_of ho hd hf ?_)
 refine wpAny_bind (Bo ?_)
 unfold rP lA at r
 unfold lA
 cases hb:fH w with
 | true =>
   rw [hb,if_pos rfl] at r
   rw [if_pos rfl]
   show wpAny _ _ (if (ep != ep)=true then _ else _) _ _ _
   rw [if_neg (by simp)]
   refine wpAny_bind ?_
   unfold setWalk
   refine wpAny_bind (wpAny_setState_of ho hd hf ?_)
   refine wpAny_bind (Bo ?_)
   rw [hb,if_pos rfl]
   refine wpAny_bind (wpAny_askSetting (wpAny_pure (wpAny_pure ?_)))
   have z:R (Option.map (fun v=>(v.snd,0)) (pickOrder (w.params.setOrder a ep) es)[i]?) s:=by simpa using r
   exact z
 | false =>
   simp only [hb,Bool.false_eq_true,if_false] at r
   rw [if_neg Bool.false_ne_true]
   show wpAny _ _ (if (!(true:Bool) && decide (es.size > 1))=true then _ else _) _ _ _
   rw [if_neg (by simp)]
   refine wpAny_bind ?_
   show wpAny _ _ (if (!(true:Bool) && !es.isEmpty)=true then _ else _) _ _ _
   rw [if_neg (by simp)]
   refine wpAny_pure (wpAny_pure ?_)
   show R (match es[SetTable.below (bR p).toArray (if i=0 then 0 else (bR p).getD (i-1) 0+1)]?,(bR p).toArray[SetTable.below (bR p).toArray (if i=0 then 0 else (bR p).getD (i-1) 0+1)]? with | some (_,x),some j=>some (x,j+1) | _,_=>none) s
   rw [YG p i (by omega)]
   by_cases lt:i<es.size
   . have e1:es[i]?=some es[i]:=Array.getElem?_eq_getElem lt
     have e2:(bR p).toArray[i]?=some ((bR p)[i]'(by omega)):=by rw [List.getElem?_toArray]; exact List.getElem?_eq_getElem _
     rw [e1,e2]
     rw [Array.getElem?_toList,e1] at r
     have e3:(bR p).getD (i+1-1) 0=(bR p)[i]'(by omega):=by simp [List.getD,List.getElem?_eq_getElem (show i<(bR p).length by omega)]
     simp only [Bool.false_eq_true,if_false,Nat.add_one_ne_zero,e3,Option.map_some] at r
     exact r
   . have e1:es[i]?=none:=Array.getElem?_eq_none (by omega)
     rw [e1]
     rw [Array.getElem?_toList,e1] at r
     exact r
theorem Qu {o:Obj} {es:Array (Int × Value)} {i:Nat} {v:Int × Value} {Q:Option Value->Shared->Prop} (ho:s.heap.get? a=some o) (hd:o.data=.set es ep (tabI (!fH w) (bR p))) (hel:nj (bR p) es.toList) (hi:i<es.size)
   (K:Ji s.heap it a (lA w p i) i es.size ep) (hv:(rP w a ep es)[i]?=some v) (q:∀ h',Ji h' it a (lA w p (i+1)) (i+1) es.size ep->Heap.SameBut it s.heap h'->Q (some v.2) { s with heap:=h' }):wpAny (model prog w) A (pyNext (.ref it)) Q E s:=by
 have hT:s.TypeIs (.ref it) "set_iterator":=⟨_,K,rfl⟩
 have hf:=lu (led:=!fH w) hel
 unfold pyNext
 refine wpAny_bind (wpAny_attempt (wpAny_callSpecial?_slot (name:=Str.ofString "__next__") hT nU (wpAny_call_entry nU hT zy ?_ (zA _))))
 unfold Builtin.«set_iterator.__next__»
 refine wpAny_bind (wpAny_pure ?_)
 refine wpAny_bind (wpAny_fieldsOf K rfl ?_)
 show wpAny _ _ (setEntries a >>= _) _ _ _
 refine wpAny_bind (wpAny_setEntries_of ho hd hf ?_)
 rw [if_neg (by simp)]
 show wpAny _ _ (setNext a (lA w p i:Int).toNat (i:Int).toNat (ep:Int).toNat >>= _) _ _ _
 rw [Int.toNat_natCast,Int.toNat_natCast,Int.toNat_natCast]
 refine wpAny_bind (Ww ho hd hel (Nat.le_of_lt hi) _ ?_)
 rw [hv]
 dsimp only [Option.map_some]
 refine wpAny_bind (wpAny_setField K rfl (by simp) ?_)
 have K1:=Heap.get?_update_self (Obj.mapFields (·.setIfInBounds 0 (rawInt (lA w p (i+1):Int)))) K rfl
 refine wpAny_bind (wpAny_setField K1 rfl (by simp [Obj.mapFields]) ?_)
 have K2:=Heap.get?_update_self (Obj.mapFields (·.setIfInBounds 1 (rawInt ((i:Int)+1)))) K1 rfl
 exact wpAny_pure ⟨_,rfl,wpAny_pure (q _ K2 ((Heap.SameBut.update ..).trans (Heap.SameBut.update ..)))⟩
theorem Ve {o:Obj} {es:Array (Int × Value)} {Q:Option Value->Shared->Prop} (hh:A.handled=none) (ho:s.heap.get? a=some o) (hd:o.data=.set es ep (tabI (!fH w) (bR p))) (hel:nj (bR p) es.toList)
   (K:Ji s.heap it a (lA w p es.size) es.size es.size ep) (hv:(rP w a ep es)[es.size]?=none) (q:∀ h',Heap.ExtBut it s.heap h'->Q none { s with heap:=h' }):wpAny (model prog w) A (pyNext (.ref it)) Q E s:=by
 have hT:s.TypeIs (.ref it) "set_iterator":=⟨_,K,rfl⟩
 have hf:=lu (led:=!fH w) hel
 unfold pyNext
 refine wpAny_bind (wpAny_attempt (wpAny_callSpecial?_slot (name:=Str.ofString "__next__") hT nU (wpAny_call_entry nU hT zy ?_ (zA _))))
 unfold Builtin.«set_iterator.__next__»
 refine wpAny_bind (wpAny_pure ?_)
 refine wpAny_bind (wpAny_fieldsOf K rfl ?_)
 show wpAny _ _ (setEntries a >>= _) _ _ _
 refine wpAny_bind (wpAny_setEntries_of ho hd hf ?_)
 rw [if_neg (by simp)]
 show wpAny _ _ (setNext a (lA w p es.size:Int).toNat (es.size:Int).toNat (ep:Int).toNat >>= _) _ _ _
 rw [Int.toNat_natCast,Int.toNat_natCast,Int.toNat_natCast]
 refine wpAny_bind (Ww ho hd hel (Nat.le_refl _) _ ?_)
 rw [hv]
 dsimp only [Option.map_none]
 refine wpAny_bind (wpAny_setField K rfl (by simp) ?_)
 show wpAny _ _ (newExc (.type "StopIteration") [] >>= _) _ _ _
 refine wpAny_bind ?_
 simp only [newExc,newTuple]
 refine wpAny_bind (wpAny_newObj_type ?_ (by size_fits))
 refine wpAny_bind (m:=firstArgMember _ _) (wpAny_of_eq (a:=Value.none) (by first | rfl | (simp only [firstArgMember]; rfl)) (wpAny_newObj_type ?_ (by size_fits)))
 simp only [raiseNew]
 refine wpAny_bind (wpAny_handled ?_)
 rw [show A.in1.handled=none from hh]
 refine (wpAny_bind (wpAny_pure (wpAny_throw ?_)))
 refine (wpAny_bind (wpAny_isInstance (T:="StopIteration") (b:=true) ⟨_,Heap.get?_push_size _ rfl,rfl⟩ isSubtype_stop ?_))
 exact wpAny_pure (q _ (((Heap.SameBut.update ..).extBut.push _).push _))
end
end L2
namespace L2
open PySem PySem.Spec PyProof.Rows PySem.W
theorem wA {α:Type}:∀ (l:List α) (i:Nat) (h:i<l.length),(l[i] :: l.eraseIdx i).Perm l
 | x :: l,0,_=>.refl _
 | x :: l,i+1,h=>by
   have h':i<l.length:=by simpa using h
   simp only [List.getElem_cons_succ,List.eraseIdx_cons_succ]
   exact (List.Perm.swap _ _ _).trans ((wA l i h').cons x)
theorem Jj {α:Type} (f:Nat->Nat):∀ (n k:Nat) (l:List α) (out:Array α),l.length=n->(pickOrder.go f n k l out).toList.Perm (out.toList++l)
 | 0,k,l,out,h=>by
   have e:l=[]:=List.eq_nil_of_length_eq_zero h
   subst e
   simp [pickOrder.go]
 | n+1,k,l,out,h=>by
   have lt:f k % l.length<l.length:=Nat.mod_lt _ (by omega)
   unfold pickOrder.go
   rw [List.getElem?_eq_getElem lt]
   dsimp only
   refine (Jj f n (k+1) (l.eraseIdx (f k % l.length)) _ (by rw [List.length_eraseIdx_of_lt lt]; omega)).trans ?_
   rw [Array.toList_push,List.append_assoc]
   exact List.Perm.append_left _ (wA l _ lt)
theorem nY {w:World} {a:Addr} {ep:Nat} {es:Array (Int × Value)}:(rP w a ep es).Perm es.toList:=by
 unfold rP
 split
 . exact (Jj _ es.size 0 es.toList #[] (by simp)).trans (by simp)
 . exact .refl _
theorem Ld:typeLookup (.type "set") "__len__" = pure (some (.builtin "set.__len__")):=by rw [typeLookup_type,builtinLookup_eq_fast]; kernel_rfl
section
variable {prog:Program} {w:World} {A:Around} {E:Value->Shared->Prop} {s:Shared} {r:Addr} {Q:Bool->Shared->Prop}
theorem Qv (hT:s.TypeIs (.ref r) "set") (q:Q false s):wpAny (model prog w) A (Builtin.List.listLengthHint (.ref r)) Q E s:=by
 unfold Builtin.List.listLengthHint
 refine wpAny_bind (wpAny_specialOf hT Ld ?_)
 generalize hid:("set.__len__" : String)=idS
 wp_delta
 rw [show splitId idS=some ("set","__len__") from by subst hid; decide +kernel]
 subst hid
 refine wpAny_bind (wpAny_isInstance (T:="set") (b:=true) hT (by rw [isSubtype_type]; kernel_rfl) ?_)
 refine wpAny_ite_split (fun z=>absurd z (by decide)) (fun _=>?_)
 refine wpAny_ite_split (fun _=>?_) (fun z=>absurd (by decide +kernel) z)
 exact wpAny_bind (wpAny_typeOf hT (wpAny_pure q))
end
def Wx (w:World) (a:Addr) (p:Nat->Bool) (o:Obj) (es:Array (Int × Value)) (ep:Nat) (h:Heap):Prop:=h.get? a=some o/\o.ExactSet/\o.data=.set es ep (tabI (!fH w) (bR p))/\nj (bR p) es.toList
theorem agU {prog:Program} {w:World} {a:Addr} {p:Nat->Bool} {o:Obj} {es:Array (Int × Value)} {ep:Nat}:KdlSrc prog w "set" a a es.size (fun i v=>∃ e,(rP w a ep es)[i]?=some e/\v=e.2) (Wx w a p o es ep) where
 type:=fun _ R=>⟨o,R.1,R.2.1.1⟩
 there:=fun _ R=>⟨Heap.lt_size R.1,Heap.lt_size R.1⟩
 keep:=fun _ _ R hk=>⟨hk a (.inl rfl) o R.1,R.2⟩
 notList:=by decide
 notTuple:=by decide
 hint:=fun _ _ _ _ R q=>Qv ⟨o,R.1,R.2.1.1⟩ q
 iter:=fun A s hh R=>by
   have ne:a≠s.heap.objs.size:=Nat.ne_of_lt (Heap.lt_size R.1)
   have len:(rP w a ep es).length=es.size:=by rw [nY.length_eq,Array.length_toList]
   refine ⟨_,fun i h=>Ji h s.heap.objs.size a (lA w p i) i es.size ep/\Wx w a p o es ep h,(fun _ _ q=>Qt R.1 R.2.1 R.2.2.1 R.2.2.2 q),⟨fun b hb=>by simp at hb; simp [hb],fun i h h' st hk=>?_,fun i s' Q E hi st q=>?_,fun s' Q E st q=>?_,fun i s' Q E st q=>?_⟩,⟨?_,Heap.get?_push_of_some _ R.1,R.2⟩⟩
   . exact ⟨hk _ (by simp) _ st.1,hk a (by simp) _ st.2.1,st.2.2⟩
   . have e:(rP w a ep es)[i]?=some ((rP w a ep es)[i]'(by omega)):=List.getElem?_eq_getElem _
     refine Qu st.2.1 st.2.2.2.1 st.2.2.2.2 hi st.1 e fun h' K' sb=>q _ h' s'.toks ⟨_,e,rfl⟩ ⟨K',(sb.2 a ne).trans st.2.1,st.2.2⟩ fun b o' hb e'=>(sb.2 b (by simpa using hb)).trans e'
   . exact Ve hh st.2.1 st.2.2.2.1 st.2.2.2.2 st.1 (List.getElem?_eq_none (by omega)) fun h' eb=>q h' s'.toks fun b o' hb e'=>eb b o' (by simpa using hb) e'
   . have hT:s'.TypeIs (.ref s.heap.objs.size) "set_iterator":=⟨_,st.1,rfl⟩
     refine wpAny_pyIter_slot hT Jh (wpAny_call_entry Jh hT La ?_ (Lb _))
     show wpAny _ _ (ret (.ref s.heap.objs.size)) _ _ s'
     exact wpAny_pure ⟨_,rfl,"set_iterator",_,hT,nU.lookup,q⟩
   . have e:lA w p 0=0:=by unfold lA; split <;> rfl
     rw [e]
     exact Heap.get?_push_size _ rfl
def zQ (w:World) (a:Addr) (p:Nat->Bool):HO:=.ext fun h=>∃ ep,iY w h a p ep
theorem Le {l m:List Int} (h:l.Perm m) (hl:l.Pairwise (·<=·)) (hm:m.Pairwise (·<=·)):l=m:=h.eq_of_pairwise (fun _ _ _ _ h1 h2=>Int.le_antisymm h1 h2) hl hm
section
variable {X:Cx}
theorem Lf {w0:World} (hw:X.w=w0) (hc:X.calm=true):dM X (.type "set") (fun xs H Q=>∃ (l:Addr) (ks:List Int),xs=[.ref l]/\cT X.K H l (ks.map V.int)/\(∀ k∈ks,k=1∨k=3∨k=5)/\∀ a,H a=none->Q (.ref a) (upd H a (zQ w0 a (xP ks ks.length)))):=by
 subst hw
 intro pins s σ H xs us Q I r h
 obtain ⟨l,ks,rfl,hl,hk,q⟩:=h
 obtain ⟨u,rfl,ru⟩:=vals1 r
 cases ru
 obtain ⟨its,rv,pl,hz⟩:=I.list hl
 have len:=rv.length
 rw [List.length_map] at len
 refine abS (ks:=ks) (I.ok.hd hc) pl.isList (by simpa using len.symm) (fun i v e=>?_) fun h' tk zS kk=>?_
 . have lt:i<ks.length:=by
     have:=(Array.getElem?_eq_some_iff.mp e).1
     simp at this
     omega
   obtain ⟨u,hu,t,ru⟩:=rv.get (i:=i) (x:=V.int ks[i]) (by rw [List.getElem?_map,List.getElem?_eq_getElem lt]; rfl)
   have ev:v=u:=by
     have e':its[i]?=some v:=by simpa using e
     rw [hu] at e'
     exact (Option.some.inj e').symm
   subst ev
   have e2:ks[i]?=some ks[i]:=List.getElem?_eq_getElem lt
   rcases hk ks[i] (List.getElem_mem lt) with z | z | z
   . exact ⟨1,t,by rw [e2,z]; rfl,by decide,by rw [ru,z]; rfl⟩
   . exact ⟨3,t,by rw [e2,z]; rfl,by decide,by rw [ru,z]; rfl⟩
   . exact ⟨5,t,by rw [e2,z]; rfl,by decide,by rw [ru,z]; rfl⟩
 . refine ⟨.ref s.heap.objs.size,_,I.laid (t':=tk) (o:=zQ X.w s.heap.objs.size (xP ks ks.length)) kk (Nat.le_refl _) ⟨zS,?_,fun h1 h2 z k=>?_⟩,rfl,q _ (I.hok.fresh (Nat.le_refl _))⟩
   . obtain ⟨_,o,_,e,_⟩:=zS
     exact ⟨o,e⟩
   . obtain ⟨ep,o,es,e,rest⟩:=z
     exact ⟨ep,o,es,k o e,rest⟩
theorem Bp {w0:World} (hw:X.w=w0) (hc:X.calm=true):dM X (.builtin "sorted") (fun xs H Q=>∃ (a:Addr) (p:Nat->Bool),xs=[.ref a]/\H a=some (zQ w0 a p)/\∀ l,H l=none->Q (.ref l) (upd H l (.lst ((bR p).map fun n:Nat=>V.int (n:Int))))):=by
 subst hw
 intro pins s σ H xs us Q I r h
 obtain ⟨a,p,rfl,ha,q⟩:=h
 obtain ⟨u,rfl,ru⟩:=vals1 r
 cases ru
 obtain ⟨⟨ep,o,es,ho,hx,hd,hel⟩,_⟩:=(show bQ X.prog X.w H s.heap a (zQ X.w a p) from I.hok a _ ha)
 have len:(bR p).length=es.size:=by rw [<- Array.length_toList]; exact Paired.length hel
 have l3:(bR p).length<=3:=List.length_filter_le _ _
 have lo:(rP X.w a ep es).length=es.size:=by rw [nY.length_eq,Array.length_toList]
 have mC:sizeLine=16777216:=sizeLine_eq
 -- the numbers in the world's order
 have nums:∀ {ns:List Nat} {l:List (Int × Value)},nj ns l->l.map (·.1)=ns.map (fun n:Nat=>(n:Int))/\∀ e∈l,∃ t,e.2=Value.int e.1 t:=by
   intro ns l hl
   induction hl with
   | nil=>exact ⟨rfl,fun e he=>by cases he⟩
   | cons h _ ih =>
     obtain ⟨t,rfl⟩:=h
     refine ⟨by simp [ih.1],fun e he=>?_⟩
     rcases List.mem_cons.mp he with rfl | he
     . exact ⟨t,rfl⟩
     . exact ih.2 e he
 obtain ⟨n1,n2⟩:=nums hel
 refine wz (ns:=(rP X.w a ep es).map (·.1)) (by rw [List.length_map]; omega) (fun R hR=>PySem.W.kdu_collect (A:=X.A.in1) (agU (p:=p) (o:=o) (es:=es) (ep:=ep)) (by simpa using I.ok.hd hc) ⟨ho,hx,hd,hel⟩ (by omega) fun h' tk acc kk hacc=>?_) fun h1 h' tk out ns' n k1 k2 ho' hS hp2 hs=>?_
 . have al:acc.toList.length=((rP X.w a ep es).map (·.1)).length:=by rw [Array.length_toList,List.length_map]; exact hacc.1.trans lo.symm
   refine hR h' tk acc.toList kk (Bm al fun i v e=>?_) al
   obtain ⟨e',he',rfl⟩:=hacc.2 i v (by simpa using e)
   obtain ⟨t,et⟩:=n2 e' (nY.mem_iff.mp (List.mem_of_getElem? he'))
   exact ⟨e'.1,t,by rw [List.getElem?_map,he']; rfl,et⟩
 . have I1:Inv X pins σ H { s with heap:=h1,toks:=tk }:=I.kept k1
   have ens:ns'=(bR p).map (fun n:Nat=>(n:Int)):=by
     refine Le (hp2.trans ((nY.map _).trans (by rw [n1]))) hs ?_
     rw [iw]
     generalize p 1=b1
     generalize p 3=b3
     generalize p 5=b5
     cases b1 <;> cases b3 <;> cases b5 <;> decide
   refine ⟨.ref h1.objs.size,_,I1.laid (t':=tk) (o:=.lst (ns'.map V.int)) k2 (Nat.le_refl _) ⟨by rw [List.length_map,ens,List.length_map]; omega,out,n,Jf hS,ho'⟩,rfl,?_⟩
   have:=q _ (I1.hok.fresh (Nat.le_refl _))
   rw [ens,List.map_map]
   exact this
end
end L2
namespace HT
open PySem PySem.Spec PyProof.Rows
def lexLe:List Int->List Int->Bool
 | [],[]=>true
 | [],_ :: _=>true
 | _ :: _,[]=>false
 | x :: xs,y :: ys=>if x=y then lexLe xs ys else decide (x<=y)
theorem Gh (x y:Int) (xs ys:List Int):lexLe (x :: xs) (y :: ys)=if x=y then lexLe xs ys else decide (x<=y):=rfl
theorem yg:lexLe [] []=true:=rfl
theorem wB (y:Int) (ys:List Int):lexLe [] (y :: ys)=true:=rfl
theorem wC (x:Int) (xs:List Int):lexLe (x :: xs) []=false:=rfl
theorem Qw (A:Around) (s:Shared) (a:Int) (t:Tok) (c:Int) (u:Tok) (prog:Program) (w:World) (E:Value->Shared->Prop) (Q:Value->Shared->Prop) (h:Q (.bool (decide (a<=c))) s) :
   wpAny (model prog w) A (richCompare .LtE (.int a t) (.int c u)) Q E s :=
 (PyProof.Rows.le_int h:wpAny (model prog w) A (compareOp .LtE (.int a t) (.int c u)) Q E s)
section
open PySem.SeqAt
open PySem.AutoSeq1 (wpAny_loadPart')
open PySem.MeetsSeq PySem.MeetsSeq2 PySem.MeetsSeq3
theorem yh (l b:Addr) (items items2:Array Value) (n n2:Nat) (dd dd2:Option Addr) (sl sl2:Array (Option Value)) (ns ms:List Int) (hi:IntsAre items.toList ns) (hj:IntsAre items2.toList ms) :
   Meets (Builtin.«tuple.__le__» ⟨[.ref l,.ref b],[]⟩)
     (fun _ R s=>s.heap.get? l=some { cls:=.type "tuple",dict:=dd,data:=.seq items n,slots:=sl }/\s.heap.get? b=some { cls:=.type "tuple",dict:=dd2,data:=.seq items2 n2,slots:=sl2 } /\
       R (.ok (.ret (.bool (lexLe ns ms)))) s) :=
 .of_wp fun prog w A R s h=>by
   obtain ⟨hp,g,d,tk,os⟩:=s; obtain ⟨hl,hb,h⟩:=h
   have f2:=AutoSeq1.sub_tuple_tuple
   have z1:items.size=ns.length:=by rw [<- hi.length]; simp
   have z2:items2.size=ms.length:=by rw [<- hj.length]; simp
   wp_walk using wpAny_loadPart' hl,wpAny_loadPart' hb,wpAny_forIn_list _ (fun rest b s'=>b.1=none/\s'=⟨hp,g,d,tk,os⟩/\∃ (vs ws:List Value) (ns' Lg:List Int),rest=vs.zip ws /\
     IntsAre vs ns'/\IntsAre ws Lg/\ns'.length+items2.size=Lg.length+items.size/\R (.ok (.ret (.bool (lexLe ns' Lg)))) ⟨hp,g,d,tk,os⟩) _
   case turn =>
     rintro ⟨y,x⟩ rest b s' ⟨hb',rfl,vs,ws,ns',Lg,hz,YH,hwi,hlen,hR⟩
     cases YH with
     | nil=>rw [List.zip_nil_left] at hz; cases hz
     | cons a t YJ =>
       cases hwi with
       | nil=>rw [List.zip_nil_right] at hz; cases hz
       | cons c u YK =>
         rw [List.zip_cons_cons] at hz
         injection hz with hyx hrest
         injection hyx with hy hx
         subst hy hx
         rw [Gh] at hR
         simp only [List.length_cons] at hlen
         obtain ⟨e,he,hiff⟩:=Cj A.in1 ⟨hp,g,d,tk,os⟩ a t c u
         refine wpAny_bind (he prog w _ _ ?_)
         cases e with
         | true =>
           rw [if_pos (hiff.mp rfl)] at hR
           wp_walk
           exact ⟨rfl,rfl,_,_,_,_,hrest,YJ,YK,by omega,hR⟩
         | false =>
           rw [if_neg (fun q=>absurd (hiff.mpr q) Bool.false_ne_true)] at hR
           have hri:=Qw A.in1 ⟨hp,g,d,tk,os⟩ a t c u prog w
           wp_walk using hri
           exact ⟨_,rfl,by simpa using hR⟩
   case fin =>
     rintro ⟨b1,b2⟩ s' ⟨hb',rfl,vs,ws,ns',Lg,hz,YH,hwi,hlen,hR⟩
     simp only at hb'
     subst hb'
     have hv:lexLe ns' Lg=decide (items.size<=items2.size):=by
       cases YH with
       | nil =>
         cases hwi with
         | nil =>
           simp only [List.length_nil] at hlen
           rw [yg]
           exact (decide_eq_true (by omega)).symm
         | cons c u hw =>
           simp only [List.length_nil,List.length_cons] at hlen
           rw [wB]
           exact (decide_eq_true (by omega)).symm
       | cons a t hv =>
         cases hwi with
         | nil =>
           simp only [List.length_nil,List.length_cons] at hlen
           rw [wC]
           exact (decide_eq_false (by omega)).symm
         | cons c u hw =>
           rw [List.zip_cons_cons] at hz
           cases hz
     rw [hv] at hR
     wp_walk
     exact ⟨_,rfl,by simpa [Builtin.Tuple.tupleCompareSizes] using hR⟩
   case h =>
     exact ⟨rfl,rfl,items.toList,items2.toList,ns,ms,rfl,hi,hj,by omega,h⟩
end
section
variable {prog:Program} {w:World} {A:Around} {E:Value->Shared->Prop} {s:Shared}
theorem Gi {l b:Addr} {items items2:Array Value} {ns ms:List Int} {Q:Value->Shared->Prop} (hl:IsTup s.heap l items) (hb:IsTup s.heap b items2) (hi:IntsAre items.toList ns) (hj:IntsAre items2.toList ms)
   (hu:A.units<cLine) (h:Q (.bool (lexLe ns ms)) s):wpAny (model prog w) A (compareOp .LtE (.ref l) (.ref b)) Q E s:=by
 obtain ⟨⟨cls,dd,data,sl⟩,ho,hc,n,hd⟩:=id hl
 obtain ⟨⟨cls2,dd2,data2,sl2⟩,ho2,hc2,n2,hd2⟩:=id hb
 simp only at hc hd hc2 hd2
 subst hc hd hc2 hd2
 exact richCompare_meets_room (op:=.LtE) ⟨_,ho,rfl⟩ ⟨_,ho2,rfl⟩ PySem.F.slot_tuple_le PySem.F.entry_tuple_le (PySem.F.args_tuple_le_2 _ _) (yh l b items items2 n n2 dd dd2 sl sl2 ns ms hi hj)
   ⟨ho,ho2,show Value.bool (lexLe ns ms)≠Value.notImplemented/\Q (.bool (lexLe ns ms)) s from ⟨(fun x=>nomatch x),h⟩⟩ hu
end
def ji:List Int->List Int->Bool
 | [],[]=>false
 | [],_ :: _=>false
 | _ :: _,[]=>true
 | x :: xs,y :: ys=>if x=y then ji xs ys else decide (x > y)
theorem Gj (x y:Int) (xs ys:List Int):ji (x :: xs) (y :: ys)=if x=y then ji xs ys else decide (x > y):=rfl
theorem yj:ji [] []=false:=rfl
theorem wD (y:Int) (ys:List Int):ji [] (y :: ys)=false:=rfl
theorem wF (x:Int) (xs:List Int):ji (x :: xs) []=true:=rfl
theorem Qx (A:Around) (s:Shared) (a:Int) (t:Tok) (c:Int) (u:Tok) (prog:Program) (w:World) (E:Value->Shared->Prop) (Q:Value->Shared->Prop) (h:Q (.bool (decide (a > c))) s) :
   wpAny (model prog w) A (richCompare .Gt (.int a t) (.int c u)) Q E s :=
 (PyProof.Rows.gt_int h:wpAny (model prog w) A (compareOp .Gt (.int a t) (.int c u)) Q E s)
section
open PySem.SeqAt
open PySem.AutoSeq1 (wpAny_loadPart')
open PySem.MeetsSeq PySem.MeetsSeq2 PySem.MeetsSeq3
theorem yp (l b:Addr) (items items2:Array Value) (n n2:Nat) (dd dd2:Option Addr) (sl sl2:Array (Option Value)) (ns ms:List Int) (hi:IntsAre items.toList ns) (hj:IntsAre items2.toList ms) :
   Meets (Builtin.«tuple.__gt__» ⟨[.ref l,.ref b],[]⟩)
     (fun _ R s=>s.heap.get? l=some { cls:=.type "tuple",dict:=dd,data:=.seq items n,slots:=sl }/\s.heap.get? b=some { cls:=.type "tuple",dict:=dd2,data:=.seq items2 n2,slots:=sl2 } /\
       R (.ok (.ret (.bool (ji ns ms)))) s) :=
 .of_wp fun prog w A R s h=>by
   obtain ⟨hp,g,d,tk,os⟩:=s; obtain ⟨hl,hb,h⟩:=h
   have f2:=AutoSeq1.sub_tuple_tuple
   have z1:items.size=ns.length:=by rw [<- hi.length]; simp
   have z2:items2.size=ms.length:=by rw [<- hj.length]; simp
   wp_walk using wpAny_loadPart' hl,wpAny_loadPart' hb,wpAny_forIn_list _ (fun rest b s'=>b.1=none/\s'=⟨hp,g,d,tk,os⟩/\∃ (vs ws:List Value) (ns' Lg:List Int),rest=vs.zip ws /\
     IntsAre vs ns'/\IntsAre ws Lg/\ns'.length+items2.size=Lg.length+items.size/\R (.ok (.ret (.bool (ji ns' Lg)))) ⟨hp,g,d,tk,os⟩) _
   case turn =>
     rintro ⟨y,x⟩ rest b s' ⟨hb',rfl,vs,ws,ns',Lg,hz,YH,hwi,hlen,hR⟩
     cases YH with
     | nil=>rw [List.zip_nil_left] at hz; cases hz
     | cons a t YJ =>
       cases hwi with
       | nil=>rw [List.zip_nil_right] at hz; cases hz
       | cons c u YK =>
         rw [List.zip_cons_cons] at hz
         injection hz with hyx hrest
         injection hyx with hy hx
         subst hy hx
         rw [Gj] at hR
         simp only [List.length_cons] at hlen
         obtain ⟨e,he,hiff⟩:=Cj A.in1 ⟨hp,g,d,tk,os⟩ a t c u
         refine wpAny_bind (he prog w _ _ ?_)
         cases e with
         | true =>
           rw [if_pos (hiff.mp rfl)] at hR
           wp_walk
           exact ⟨rfl,rfl,_,_,_,_,hrest,YJ,YK,by omega,hR⟩
         | false =>
           rw [if_neg (fun q=>absurd (hiff.mpr q) Bool.false_ne_true)] at hR
           have hri:=Qx A.in1 ⟨hp,g,d,tk,os⟩ a t c u prog w
           wp_walk using hri
           exact ⟨_,rfl,by simpa using hR⟩
   case fin =>
     rintro ⟨b1,b2⟩ s' ⟨hb',rfl,vs,ws,ns',Lg,hz,YH,hwi,hlen,hR⟩
     simp only at hb'
     subst hb'
     have hv:ji ns' Lg=decide (items.size > items2.size):=by
       cases YH with
       | nil =>
         cases hwi with
         | nil =>
           simp only [List.length_nil] at hlen
           rw [yj]
           exact (decide_eq_false (by omega)).symm
         | cons c u hw =>
           simp only [List.length_nil,List.length_cons] at hlen
           rw [wD]
           exact (decide_eq_false (by omega)).symm
       | cons a t hv =>
         cases hwi with
         | nil =>
           simp only [List.length_nil,List.length_cons] at hlen
           rw [wF]
           exact (decide_eq_true (by omega)).symm
         | cons c u hw =>
           rw [List.zip_cons_cons] at hz
           cases hz
     rw [hv] at hR
     wp_walk
     exact ⟨_,rfl,by simpa [Builtin.Tuple.tupleCompareSizes] using hR⟩
   case h =>
     exact ⟨rfl,rfl,items.toList,items2.toList,ns,ms,rfl,hi,hj,by omega,h⟩
end
section
variable {prog:Program} {w:World} {A:Around} {E:Value->Shared->Prop} {s:Shared}
theorem Gk {l b:Addr} {items items2:Array Value} {ns ms:List Int} {Q:Value->Shared->Prop} (hl:IsTup s.heap l items) (hb:IsTup s.heap b items2) (hi:IntsAre items.toList ns) (hj:IntsAre items2.toList ms)
   (hu:A.units<cLine) (h:Q (.bool (ji ns ms)) s):wpAny (model prog w) A (compareOp .Gt (.ref l) (.ref b)) Q E s:=by
 obtain ⟨⟨cls,dd,data,sl⟩,ho,hc,n,hd⟩:=id hl
 obtain ⟨⟨cls2,dd2,data2,sl2⟩,ho2,hc2,n2,hd2⟩:=id hb
 simp only at hc hd hc2 hd2
 subst hc hd hc2 hd2
 exact richCompare_meets_room (op:=.Gt) ⟨_,ho,rfl⟩ ⟨_,ho2,rfl⟩ PySem.F.slot_tuple_gt PySem.F.entry_tuple_gt (PySem.F.args_tuple_gt_2 _ _) (yp l b items items2 n n2 dd dd2 sl sl2 ns ms hi hj)
   ⟨ho,ho2,show Value.bool (ji ns ms)≠Value.notImplemented/\Q (.bool (ji ns ms)) s from ⟨(fun x=>nomatch x),h⟩⟩ hu
end
end HT
namespace L2
open PySem PySem.Spec PyProof.Rows
section
variable {X:Cx}
def agW (K:PySem.W.Frag):R2:=fun x y H Q=>∃ a b ns ms,x=.ref a/\y=.ref b/\bW K H a (ns.map V.int)/\bW K H b (ms.map V.int)/\Q (.bl (HT.lexLe ns ms)) H
theorem YL (hu:X.A.units<cLine):gW X (compareOp .LtE) (agW X.K):=by
 intro pins s σ H x y v u Q I rx ry h
 obtain ⟨a,b,ns,ms,rfl,rfl,ha,hb,q⟩:=h
 cases rx
 cases ry
 obtain ⟨its,r1,p1,_⟩:=I.tuple ha
 obtain ⟨its2,r2,p2,_⟩:=I.tuple hb
 exact HT.Gi p1 p2 (intsAre_of r1) (intsAre_of r2) hu ⟨.bl (HT.lexLe ns ms),H,I,rfl,q⟩
end
section
variable {prog:Program} {w:World} {A:Around} {E:Value->Shared->Prop} {s:Shared}
theorem abT {a b:Value} {g:Bool} {I Z:Addr} {fp wr:List Addr} {St:Nat->Heap->Prop} {c0:Nat} {R:Result->Shared->Prop} (W:Walks prog w A.in1 I fp wr 2 (fun i v=>(#[a,b]:Array Value)[i]?=some v) St) (nZ:Z ∉ fp) (st:St 0 s.heap)
   (eZ:s.heap.get? Z=some { cls:=.type "list",dict:=none,data:=.seq #[] c0,slots:=#[] })
   (cmp:∀ (h':Heap) (tk:Nat) (Q:Value->Shared->Prop) (E:Value->Shared->Prop),(∀ c o,c ∉ wr->c≠Z->s.heap.get? c=some o->h'.get? c=some o)->Q (.bool g) { s with heap:=h',toks:=tk }->wpAny (model prog w) A.in1 (richCompare .Gt b a) Q E { s with heap:=h',toks:=tk })
   (q:∀ (h':Heap) (tk:Nat),(∀ c o,c ∉ wr->c≠Z->s.heap.get? c=some o->h'.get? c=some o)->R (.ok (.ret (if g then b else a))) { s with heap:=h',toks:=tk }) :
   codeAny (model prog w) A (.builtin "max.loop" ⟨[.ref I,.none,.ref Z],[]⟩) R s:=by
 have nW:Z ∉ wr:=fun z=>nZ (W.sub _ z)
 have nm:(toString "max"++toString ".loop" : String) = "max.loop":=by decide
 -- the end
 have fin:∀ (h1:Heap) (t1:Nat) (v:Value) (c:Nat),v=(if g then b else a)->St 2 h1->h1.get? Z=some { cls:=.type "list",dict:=none,data:=.seq #[v,v] c,slots:=#[] }->(∀ c o,c ∉ wr->c≠Z->s.heap.get? c=some o->h1.get? c=some o) ->
     codeAny (model prog w) A (.builtin "max.loop" ⟨[.ref I,.none,.ref Z],[]⟩) R { s with heap:=h1,toks:=t1 }:=by
   intro h1 t1 v c ev st1 e1 k1
   refine codeAny_builtin F.entry_max_loop ?_
   rw [Around.under_plainId F.plain_max_loop _]
   show wpAny _ A.in1 (seqItems? (.ref Z) >>= _) _ _ _
   refine wpAny_bind (wpAny_seqItems e1 rfl ?_)
   show wpAny _ A.in1 (tryCatch (pyNext (.ref I)) _ >>= _) _ _ _
   refine wpAny_bind (wpAny_tryCatch (W.done { s with heap:=h1,toks:=t1 } _ _ st1 fun h2 t2 k2=>?_))
   show wpAny _ A.in1 (updateSeq Z (fun _=>#[]) >>= _) _ _ _
   refine wpAny_bind (wpAny_updateSeq (k2 Z _ nW e1) rfl (wpAny_bind (wpAny_letGo (wpAny_pure ?_))))
   rw [ev]
   exact q _ t2 fun b' o n1 n2 e=>(Heap.get?_update_other _ _ (Ne.symm n2)).trans (k2 b' o n1 (k1 b' o n1 n2 e))
 -- the second
 have snd:∀ (h1:Heap) (t1:Nat) (c:Nat),St 1 h1->h1.get? Z=some { cls:=.type "list",dict:=none,data:=.seq #[a,a] c,slots:=#[] }->(∀ c o,c ∉ wr->c≠Z->s.heap.get? c=some o->h1.get? c=some o) ->
     codeAny (model prog w) A (.builtin "max.loop" ⟨[.ref I,.none,.ref Z],[]⟩) R { s with heap:=h1,toks:=t1 }:=by
   intro h1 t1 c st1 e1 k1
   refine codeAny_builtin F.entry_max_loop ?_
   rw [Around.under_plainId F.plain_max_loop _]
   show wpAny _ A.in1 (seqItems? (.ref Z) >>= _) _ _ _
   refine wpAny_bind (wpAny_seqItems e1 rfl ?_)
   show wpAny _ A.in1 (tryCatch (pyNext (.ref I)) _ >>= _) _ _ _
   refine wpAny_bind (wpAny_tryCatch (W.item 1 { s with heap:=h1,toks:=t1 } _ _ (by decide) st1 fun v h2 t2 hP st2 k2=>?_))
   obtain rfl:b=v:=by simpa using hP
   have e2:=k2 Z _ nW e1
   have k12:∀ c o,c ∉ wr->c≠Z->s.heap.get? c=some o->h2.get? c=some o:=fun c o n1 n2 e=>k2 c o n1 (k1 c o n1 n2 e)
   show wpAny _ A.in1 (tryCatch (holding [b,b] (richCompare .Gt b a >>= _)) _ >>= _) _ _ _
   refine wpAny_bind (wpAny_tryCatch (wpAny_holding (wpAny_bind (cmp h2 t2 _ _ k12 ?_))))
   refine wpAny_bind (wpAny_holding (wpAny_truthy_bool (wpAny_bind (wpAny_letGo (wpAny_pure ?_)))))
   cases hb:g with
   | true =>
     simp only [if_true]
     refine wpAny_bind (wpAny_updateSeq e2 rfl (wpAny_bind (wpAny_letGo ?_)))
     rw [nm]
     refine wpAny_pure ⟨plainId_quiet F.plain_max_loop _,fin _ t2 b _ (by rw [hb]; rfl) (W.frame _ _ _ st2 fun b' hf o e=>?_) (Heap.get?_update_self _ e2 rfl) fun b' o n1 n2 e=>(Heap.get?_update_other _ _ (Ne.symm n2)).trans (k12 b' o n1 n2 e)⟩
     exact (Heap.get?_update_other _ _ (fun z:Z=b'=>nZ (by rw [z]; exact hf))).trans e
   | false =>
     simp only [Bool.false_eq_true,if_false]
     refine wpAny_bind (wpAny_letGo ?_)
     rw [nm]
     exact wpAny_pure ⟨plainId_quiet F.plain_max_loop _,fin h2 t2 a c (by rw [hb]; rfl) st2 e2 k12⟩
 refine codeAny_builtin F.entry_max_loop ?_
 rw [Around.under_plainId F.plain_max_loop _]
 show wpAny _ A.in1 (seqItems? (.ref Z) >>= _) _ _ _
 refine wpAny_bind (wpAny_seqItems eZ rfl ?_)
 show wpAny _ A.in1 (tryCatch (pyNext (.ref I)) _ >>= _) _ _ _
 refine wpAny_bind (wpAny_tryCatch (W.item 0 s _ _ (by decide) st fun v h2 t2 hP st2 k2=>?_))
 obtain rfl:a=v:=by simpa using hP
 have e2:=k2 Z _ nW eZ
 show wpAny _ A.in1 (updateSeq Z (fun _=>#[a,a]) >>= _) _ _ _
 refine wpAny_bind (wpAny_updateSeq e2 rfl ?_)
 rw [nm]
 refine wpAny_pure ⟨plainId_quiet F.plain_max_loop _,snd _ t2 _ (W.frame _ _ _ st2 fun b' hf o e=>?_) (Heap.get?_update_self _ e2 rfl) fun b' o n1 n2 e=>(Heap.get?_update_other _ _ (Ne.symm n2)).trans (k2 b' o n1 e)⟩
 exact (Heap.get?_update_other _ _ (fun z:Z=b'=>nZ (by rw [z]; exact hf))).trans e
theorem Vf {a b:Value} {g:Bool} {Q:Value->Shared->Prop} (hh:A.handled=none)
   (cmp:∀ (h':Heap) (tk:Nat) (Q:Value->Shared->Prop) (E:Value->Shared->Prop),(∀ c o,s.heap.get? c=some o->h'.get? c=some o)->Q (.bool g) { s with heap:=h',toks:=tk }->wpAny (model prog w) A.in1 (richCompare .Gt b a) Q E { s with heap:=h',toks:=tk })
   (q:∀ (h':Heap) (tk:Nat),(∀ c o,s.heap.get? c=some o->h'.get? c=some o)->Q (if g then b else a) { s with heap:=h',toks:=tk }) :
   wpAny (model prog w) A (call (.builtin "max") [a,b]) Q E s:=by
 have nm:(toString "max"++toString ".loop" : String) = "max.loop":=by decide
 refine call_function_tree F.kind_max F.plain_max F.entry_max (PySem.F.args_max2 _ _) ?_
 refine wpAny_bind (wpAny_of_eq (show Builtin.Builtins.bindParams "max" ["key","default"] 0 ⟨[],[]⟩=pure [none,none] from rfl) ?_)
 show wpAny _ A.in1 (newTuple [a,b] >>= _) _ _ _
 refine wpAny_bind (wpAny_newObj_type ?_)
 have tT:(s.heap.push { cls:=.type "tuple",data:=.seq #[a,b] }).IsTuple s.heap.objs.size #[a,b]:=⟨_,Heap.get?_push_size _ rfl,rfl,0,rfl⟩
 refine wpAny_bind (wpAny_pyIter_tuple (s:={ s with heap:=s.heap.push { cls:=.type "tuple",data:=.seq #[a,b] } }) tT ?_)
 refine wpAny_bind (wpAny_newObj_type ?_)
 rw [nm]
 refine wpAny_pure ⟨plainId_quiet F.plain_max_loop _,?_⟩
 have z1:(s.heap.push { cls:=.type "tuple",data:=.seq #[a,b] }).objs.size=s.heap.objs.size+1:=Heap.size_push ..
 have hT2:=(Walks.tuple (prog:=prog) (w:=w) (A:=A.in1) (by simpa using hh) (s.heap.push { cls:=.type "tuple",data:=.seq #[a,b] }).objs.size s.heap.objs.size (by rw [z1]; exact Nat.ne_of_lt (Nat.lt_succ_self _)) #[a,b])
 have old:∀ (c:Addr) (o:Obj),s.heap.get? c=some o->c≠s.heap.objs.size/\c≠(s.heap.push { cls:=.type "tuple",data:=.seq #[a,b] }).objs.size/\c≠((s.heap.push { cls:=.type "tuple",data:=.seq #[a,b] }).push { cls:=.type "tuple_iterator",data:=.fields #[.ref s.heap.objs.size,.int 0 0] }).objs.size:=fun c o e=>by
   have lt:=Heap.lt_size e
   rw [Heap.size_push (s.heap.push { cls:=.type "tuple",data:=.seq #[a,b] }),z1]
   exact ⟨Nat.ne_of_lt lt,Nat.ne_of_lt (Nat.lt_succ_of_lt lt),Nat.ne_of_lt (Nat.lt_succ_of_lt (Nat.lt_succ_of_lt lt))⟩
 refine abT (g:=g) hT2 ?_ ⟨⟨_,Heap.get?_push_of_some _ (Heap.get?_push_size _ rfl),rfl,rfl⟩,(tT.push _).push _⟩ (Heap.get?_push_size _ rfl) (fun h' tk Q E kk q'=>cmp h' tk Q E (fun c o e=>kk c o ?_ ?_ (Heap.get?_push_of_some _ (Heap.get?_push_of_some _ (Heap.get?_push_of_some _ e)))) q') fun h' tk kk=>q h' tk fun c o e=>kk c o ?_ ?_ (Heap.get?_push_of_some _ (Heap.get?_push_of_some _ (Heap.get?_push_of_some _ e)))
 . intro z
   simp only [List.mem_cons,List.not_mem_nil,or_false] at z
   have s2:((s.heap.push { cls:=.type "tuple",data:=.seq #[a,b] }).push { cls:=.type "tuple_iterator",data:=.fields #[.ref s.heap.objs.size,.int 0 0] }).objs.size=s.heap.objs.size+1+1:=by rw [Heap.size_push,z1]
   rcases z with z | z
   . exact absurd (s2.symm.trans (z.trans z1)) (Nat.ne_of_gt (Nat.lt_succ_self _))
   . exact absurd (s2.symm.trans z) (Nat.ne_of_gt (Nat.lt_succ_of_lt (Nat.lt_succ_self _)))
 . intro z; exact (old c o e).2.1 (by simpa using z)
 . exact (old c o e).2.2
 . intro z; exact (old c o e).2.1 (by simpa using z)
 . exact (old c o e).2.2
end
section
variable {X:Cx}
theorem Lh (hc:X.calm=true) (hu:X.A.units+1<cLine):dM X (.builtin "max") (fun xs H Q=>∃ a b ns ms,xs=[.ref a,.ref b]/\H a=some (.tup (ns.map V.int))/\H b=some (.tup (ms.map V.int))/\Q (.ref (if HT.ji ms ns then b else a)) H):=by
 intro pins s σ H xs us Q I r h
 obtain ⟨a,b,ns,ms,rfl,ha,hb,q⟩:=h
 obtain ⟨u,v,rfl,ru,rv⟩:=vals2 r
 cases ru
 cases rv
 refine Vf (g:=HT.ji ms ns) (I.ok.hd hc) (fun h' tk Q E kk q'=>?_) fun h' tk kk=>⟨_,H,I.kept kk,?_,q⟩
 . have I1:Inv X pins σ H { s with heap:=h',toks:=tk }:=I.kept kk
   obtain ⟨its,r1,p1,_⟩:=I1.tuple (bW.of ha)
   obtain ⟨its2,r2,p2,_⟩:=I1.tuple (bW.of hb)
   exact HT.Gk (s:={ s with heap:=h',toks:=tk }) p2 p1 (intsAre_of r2) (intsAre_of r1) (by first | exact hu | (simp; omega)) q'
 . split <;> rfl
end
end L2
namespace L2
open PySem PySem.Spec PyProof.Rows
section
variable {X:Cx}
def agX (K:PySem.W.Frag) (b:Bool):R2:=fun x y H Q=>∃ (d:PyData) (es:List PyData),Dp K H x d/\Dp K H y (.list es)/\d.canLay0=true/\d.depth<=60/\PyData.canLayAll0 es=true/\Q (.bl (xor b (es.any fun e=>PyData.eqv e d))) H
theorem YM (hu:X.A.units+64<cLine):gW X (compareOp .In) (agX X.K false):=by
 intro pins s σ H x y v u Q I rx ry h
 obtain ⟨d,es,hd,he,cd,dd,ce,q⟩:=h
 obtain ⟨as,ra⟩:=hd.reads I rx
 obtain ⟨bs,rb⟩:=he.reads I ry
 rw [Bool.false_xor] at q
 exact SeqAt.in_list_reads rb ra ce cd (by have:=Nat.min_le_right (PyData.depthAll es) d.depth; omega) ⟨.bl _,H,I,rfl,q⟩
end
end L2
namespace L2
open PySem PySem.Spec PyProof.Rows
def YQ (td ty tx:TE):TE:=fun σ H Q=>td σ H fun x H1=>∃ a,x=.ref a/\IsD H1 a/\ty σ H1 fun y H2=>tx σ H2 fun z H3=>∃ kvs k,H3 a=some (.dK kvs)/\y=kV k/\kvs.length<sizeLine /\
 (∀ v,cj kvs k=some v->Q v H3)/\(cj kvs k=none->Q z (upd H3 a (.dK (putK kvs k z))))
section
variable {X:Cx} {o e f:Expr} {apos cpos:Pos} {td ty tx:TE}
theorem Qy (ho:PE X o td) (he:PE X e ty) (hf:PE X f tx) (m:M2 X o "setdefault" apos e f cpos):PE X (.Call (.Attribute o "setdefault" apos) [e,f] [] cpos) (YQ td ty tx):=by
 intro pins s σ H Q I h
 refine wpAny_Call_method m.base m.few m.line PySem.F.plainAttrs_dict PySem.F.slot_dict_setdefault PySem.F.type_dict_setdefault (cY (ho pins s σ H _ I h) fun u s1 ⟨x,H1,I1,rx,a,ex,d,q1⟩=>?_)
 subst ex
 obtain rfl:u=Value.ref a:=rx
 obtain ⟨t1,t2,_⟩:=Ae I1 d
 refine ⟨t1,t2,?_⟩
 rw [m.trees]
 refine Calls.callWith_builtin rfl (Calls.evalArgs_plain (Calls.spliced_cons (cY (he pins s1 σ H1 _ I1 q1) fun iv s2 ⟨y,H2,I2,ry,q2⟩ =>
   Calls.spliced_cons (cY (hf pins s2 σ H2 _ I2 q2) fun fv s3 ⟨z,H3,I3,rz,kvs,k,ea,ey,hl,c1,c2⟩=>Calls.spliced_nil ?_))))
 subst ey
 obtain ⟨zl,hd,vs,rel,dd⟩:=vd I3.hok ea
 refine call_meetsIn PySem.F.slot_dict_setdefault dd.typeIs PySem.F.entry_dict_setdefault (PySem.F.args_dict_setdefault_3 _ _ _) (kt_meets_setdefault (aK X.prog X.w) a (u9 ry) hd fv)
   ⟨vs,dd,by rw [<- rel.length]; exact zl,fun v hv=>?_,fun hn h' Sg hs=>?_⟩
 . have r:=rel.val k
   rw [hv] at r
   cases e1:cj kvs k with
   | none=>rw [e1] at r; exact False.elim r
   | some v' =>
     rw [e1] at r
     exact ⟨v',H3,I3.tok _,r,c1 v' e1⟩
 . have e1:cj kvs k=none:=by
     have r:=rel.val k
     rw [hn] at r
     cases e1:cj kvs k with
     | none=>rfl
     | some v'=>rw [e1] at r; exact False.elim r
   have hq:∃ q,h'.get? a=some q:=let ⟨q,_,_,hq,_⟩:=Sg; ⟨q,hq⟩
   have lp:=gC kvs k z
   exact ⟨z,_,uF I3 (by rw [ea]; exact True.intro) hs hq (Ad (by omega) hd (rel.put k rz) Sg),rz,c2 e1⟩
def tO (v a:Addr):HO:=.ext fun h=>h.IsValuesView v a
def abU (td:TE):TE:=fun σ H Q=>td σ H fun x H1=>∃ a kvs,x=.ref a/\Rd H1 a (.dK kvs)/\∀ v,H1 v=none->Q (.ref v) (upd H1 v (tO v a))
theorem Vg (ho:PE X o td) (hbase:attributeBase o "values" X.env (eval o X.env)=eval o X.env:=by rfl) (hline:(apos.endLine == cpos.line)=true:=by rfl):PE X (.Call (.Attribute o "values" apos) [] [] cpos) (abU td):=by
 intro pins s σ H Q I h
 refine wpAny_Call_method0_late hbase hline (cY (ho pins s σ H _ I h) fun v s1 ⟨x,H1,I1,r1,q1⟩=>?_)
 obtain ⟨a,kvs,e,hq,q⟩:=q1
 subst e
 cases r1
 obtain ⟨zl,ds,vs,rel,dd⟩:=oN I1.hok hq
 have tI:=Ae I1 (.inl ⟨kvs,hq⟩)
 refine ⟨"dict","dict.values",PySem.F.plainAttrs_dict,PySem.F.slot_dict_values,PySem.F.type_dict_values,tI.1,tI.2.1,Calls.callWith_builtin rfl (PySem.evalArgs_none ?_)⟩
 refine call_meetsIn PySem.F.slot_dict_values tI.1 PySem.F.entry_dict_values (PySem.F.args_dict_values_1 _) (meets_dict_values (aK X.prog X.w) a ds) ⟨⟨vs,dd⟩,?_⟩
 refine ⟨.ref s1.heap.objs.size,_,I1.laid (t':=s1.toks) (o:=tO s1.heap.objs.size a) (fun b o e=>Heap.get?_push_of_some _ e) (Nat.le_refl _) ⟨⟨_,Heap.get?_push_size _ rfl,rfl,rfl⟩,⟨_,Heap.get?_push_size _ rfl⟩,fun h1 h2 z k=>?_⟩,rfl,q _ (I1.hok.fresh (Nat.le_refl _))⟩
 obtain ⟨o,e,r⟩:=z
 exact ⟨o,k o e,r⟩
theorem Gm (hc:X.calm=true):dM X (.type "list") (fun xs H Q=>∃ v a kvs,xs=[.ref v]/\H v=some (tO v a)/\Rd H a (.dK kvs)/\∀ p,H p=none->Q (.ref p) (upd H p (.lst (kvs.map (·.2))))):=by
 intro pins s σ H xs us Q I r h
 obtain ⟨v,a,kvs,rfl,hv,ha,q⟩:=h
 obtain ⟨u,rfl,ru⟩:=vals1 r
 cases ru
 obtain ⟨zl,ds,vs,rel,dd⟩:=oN I.hok ha
 obtain ⟨ep,hat⟩:=dd.dictAt
 obtain ⟨vw,_⟩:=(show bQ X.prog X.w H s.heap v (tO v a) from I.hok v _ hv)
 have lv:=rel.length
 refine PySem.W.kdl_call (PySem.W.kdl_values (knd:=aK X.prog X.w) (r:=v) (d:=a) (kvs:=vs) (ep:=ep)) (I.ok.hd hc) ⟨vw,hat⟩ (by rw [<- lv]; exact zl) fun h' tk acc c kk hl hacc=>?_
 have hvl:Vals (kvs.map (·.2)) acc.toList:=by
   have al:acc.toList.length=kvs.length:=by rw [Array.length_toList,lv]; exact hacc.1
   have key:∀ (kvs:List (Key × V)) (vs:List (Key × Value)) (us:List Value),KV kvs vs->us.length=kvs.length->(∀ (i:Nat) (u:Value),us[i]?=some u->∃ k,vs[i]?=some (k,u))->Vals (kvs.map (·.2)) us:=by
     intro kvs vs us hk
     unfold KV at hk
     induction hk generalizing us with
     | nil=>intro l _; rw [List.eq_nil_of_length_eq_zero l]; exact .nil
     | @cons p q ps qs h t ih =>
       intro l hu
       cases us with
       | nil=>simp at l
       | cons u us =>
         obtain ⟨k,e⟩:=hu 0 u rfl
         have e':q=(k,u):=Option.some.inj e
         refine .cons (by have:=h.2; rw [e'] at this; exact this) (ih us (by simpa using l) fun i u' hi=>hu (i+1) u' (by simpa using hi))
   exact key kvs vs acc.toList rel al fun i u hi=>hacc.2 i u (by simpa using hi)
 refine ⟨.ref s.heap.objs.size,_,I.laid (t':=tk) (o:=.lst (kvs.map (·.2))) kk (Nat.le_refl _) ⟨by rw [List.length_map]; exact zl,acc.toList,c,hvl,by rw [Array.toArray_toList]; exact hl⟩,rfl,q _ (I.hok.fresh (Nat.le_refl _))⟩
end
end L2
namespace L2
open PySem PySem.Spec PyProof.Rows
def abV (P:Program) (w:World) (H:Hp) (h:Heap) (d:Addr) (kvs:List (List Key × V)):Prop:=∃ xs:List (List Key × Addr × Value),KT H kvs xs /\
 ∃ o es ep,h.get? d=some o/\o.ExactDict/\o.data=.dict es ep/\es.toList=xs.map (entryOfKey (tupleKind (aK P w)))/\(xs.map (·.1)).Nodup
section
variable {prog:Program} {w:World} {A:Around} {E:Value->Shared->Prop}
theorem abW {H:Hp} {h:Heap} (ok:∀ b ks,H b=some (.tup (ks.map kV))->(tupleKind (aK prog w)).is h ks b):∀ {l:List (List Key × V)} {m:List (List Key × Addr × Value)},KT H l m->∀ x∈m,(tupleKind (aK prog w)).is h x.1 x.2.1:=by
 intro l m q
 induction q with
 | nil=>intro x hx; exact nomatch hx
 | @cons p q ps qs hq t ih =>
   intro x hx
   rcases List.mem_cons.mp hx with e | hx
   . subst e
     exact ok _ _ (by rw [<- hq.1]; exact hq.2.1)
   . exact ih x hx
theorem YS {R:Result->Shared->Prop} {d it l:Addr} {items:Array Value} {H:Hp} {kvs:List (List Key × V)} (hu:(tupleKind (aK prog w)).room A.in1) (hh:A.in1.handled=none) (n1:d≠it) (n2:d≠l) (n3:it≠l) (hb:kvs.length<=sizeLine) (hn:items.size=kvs.length) (nd:(kvs.map (·.1)).Nodup) (fr:∀ b u,H b=some u->b≠d/\b≠it) :
   ∀ (k i:Nat) (s:Shared),kvs.length-i=k->i<=kvs.length->abV prog w H s.heap d (kvs.take i)->s.heap.IsListIter it l i->s.heap.IsList l items->(∀ b ks,H b=some (.tup (ks.map kV))->(tupleKind (aK prog w)).is s.heap ks b) ->
   (∀ (j:Nat) (kv:List Key × V),kvs[j]?=some kv->∃ T b u,items[j]?=some (.ref T)/\IsTup s.heap T #[.ref b,u]/\H b=some (.tup (kv.1.map kV))/\RelV kv.2 u/\T≠d/\T≠it) ->
   (∀ (h':Heap) (tk:Nat),abV prog w H h' d kvs->(∀ b o,b≠d->b≠it->s.heap.get? b=some o->h'.get? b=some o)->R (.ok (.ret .none)) { s with heap:=h',toks:=tk }) ->
   codeAny (model prog w) A (.builtin "dict.update.loop" ⟨[.ref d,.ref it,rawInt i,.none],[]⟩) R s:=by
 intro k
 induction k with
 | zero =>
   intro i s hk hi hd hit hl ok ht hR
   have hin:i=kvs.length:=by omega
   refine codeAny_builtin m6 ?_
   rw [Around.under_plainId gR _]
   show wpAny _ A.in1 (pyNext (.ref it) >>= _) _ _ s
   refine wpAny_bind (wpAny_pyNext_list_end hh hit hl (Array.getElem?_eq_none (by omega)) fun h' eb=>?_)
   show wpAny _ A.in1 (Builtin.Dict.addKeywords d [] >>= fun _=>ret Value.none) _ _ _
   refine wpAny_bind (wpAny_pure (wpAny_pure (hR h' s.toks ?_ fun b o _ b2 e=>eb b o b2 e)))
   rw [hin,List.take_length] at hd
   obtain ⟨xs,kt,o,es,ep,ho,r⟩:=hd
   exact ⟨xs,kt,o,es,ep,eb _ _ n1 ho,r⟩
 | succ k ih =>
   intro i s hk hi hd hit hl ok ht hR
   have hlt:i<kvs.length:=by omega
   obtain ⟨kv,hkv⟩:∃ kv,kvs[i]?=some kv:=⟨kvs[i],List.getElem?_eq_getElem hlt⟩
   obtain ⟨T,kb,u,hx,hT,hkb,ru,t1,t2⟩:=ht i kv hkv
   refine codeAny_builtin m6 ?_
   rw [Around.under_plainId gR _]
   show wpAny _ A.in1 (pyNext (.ref it) >>= _) _ _ s
   refine wpAny_bind (wpAny_pyNext_list_item hit hl hx fun h' g1 sb=>?_)
   have hT':IsTup h' T #[.ref kb,u]:=by obtain ⟨o,e,r⟩:=hT; exact ⟨o,(sb.2 T t2).trans e,r⟩
   obtain ⟨xs,kt,o,es,ep,ho,h2,h3,h4,h5⟩:=hd
   have Wy:∀ {ha hb:Heap},(∀ b o,b≠d->b≠it->ha.get? b=some o->hb.get? b=some o)->(∀ b ks,H b=some (.tup (ks.map kV))->(tupleKind (aK prog w)).is ha ks b)->∀ b ks,H b=some (.tup (ks.map kV))->(tupleKind (aK prog w)).is hb ks b:=fun kk z b ks e=>by
     obtain ⟨o,its,m,e1,r⟩:=z b ks e
     exact ⟨o,its,m,kk b o (fr b _ e).1 (fr b _ e).2 e1,r⟩
   have ok':=Wy (fun b o _ b2 e=>(sb.2 b b2).trans e) ok
   have hd':h'.DictOfH (tupleKind (aK prog w)) d xs:=⟨o,es,ep,(sb.2 d n1).trans ho,h2,h3,h4,abW ok' kt,h5⟩
   have xl:xs.length=i:=by
     have z:=Paired.length kt
     rw [List.length_take] at z
     omega
   refine wpAny_bind (wpAny_holding (wpAny_bind (wpAny_tryCatch (IsTup.pairItems hT' ?_))))
   show wpAny _ A.in1 (holding [.ref kb,u] (dictSet d (.ref kb) u)) _ _ _
   refine wpAny_holding ?_
   refine wpAny_dictSet_heap (s:={ s with heap:=h' }) (hsz:=by omega) hu (ok' kb kv.1 hkb) hd' fun hz dz MK=>?_
   show wpAny _ A.in1 (again (.builtin "dict.update.loop" ⟨[.ref d,.ref it,rawInt ((i:Int)+1),.none],[]⟩)) _ _ _
   have kk:∀ b o,b≠d->b≠it->s.heap.get? b=some o->hz.get? b=some o:=fun b o b1 b2 e=>(MK.2 b b1).trans ((sb.2 b b2).trans e)
   have tk1:kvs.take (i+1)=kvs.take i++[kv]:=by rw [List.take_add_one,hkv]; rfl
   have nin:((kvs.take i).any fun x=>decide (x.1=kv.1))=false:=by
     rw [List.any_eq_false]
     intro x hx z
     have z':x.1=kv.1:=of_decide_eq_true z
     obtain ⟨j,hj,ej⟩:=List.getElem_of_mem hx
     rw [List.length_take] at hj
     rw [List.getElem_take] at ej
     have a1:(kvs.map (·.1))[j]?=some x.1:=by rw [List.getElem?_map,List.getElem?_eq_getElem (by omega),ej]; rfl
     have a2:(kvs.map (·.1))[i]?=some x.1:=by rw [List.getElem?_map,hkv,z']; rfl
     have:=(List.getElem?_inj (by rw [List.length_map]; omega) nd).mp (a1.trans a2.symm)
     omega
   have kt2:KT H (kvs.take (i+1)) (storedH xs kv.1 kb u):=by
     have z:=kt.put kv.1 hkb ru
     unfold putK at z
     rw [nin,if_neg Bool.false_ne_true] at z
     rw [tk1]
     exact z
   obtain ⟨o2,es2,ep2,z1,z2,z3,z4,_,z5⟩:=dz
   refine wpAny_pure ⟨plainId_quiet gR _,ih (i+1) _ (by omega) hlt ⟨_,kt2,o2,es2,ep2,z1,z2,z3,z4,z5⟩ (g1.at fun o e=>(MK.2 it (Ne.symm n1)).trans e) (hl.at fun o e=>kk _ o (Ne.symm n2) (Ne.symm n3) e) (Wy kk ok) (fun j kv2 hj=>?_) fun h3 tk hd3 k3=>?_⟩
   . obtain ⟨T2,b2,u2,a1,⟨o,a2,a2'⟩,a3,a4,a5,a6⟩:=ht j kv2 hj
     exact ⟨T2,b2,u2,a1,⟨o,kk _ _ a5 a6 a2,a2'⟩,a3,a4,a5,a6⟩
   . exact hR h3 tk hd3 fun b o b1 b2 e=>k3 b o b1 b2 (kk b o b1 b2 e)
end
section
variable {X:Cx}
theorem Dt (hc:X.calm=true) (hu:X.A.units+64<cLine):dM X (.type "dict") (fun xs H Q=>∃ (l:Addr) (ps:List (Addr × Addr × (List Key × V))),xs=[.ref l]/\H l=some (.lst (ps.map fun p=>.ref p.1))/\(∀ p∈ps,H p.1=some (.tup [.ref p.2.1,p.2.2.2])/\H p.2.1=some (.tup (p.2.2.1.map kV)))/\(ps.map (·.2.2.1)).Nodup/\∀ d,H d=none->Q (.ref d) (upd H d (.dT (ps.map (·.2.2))))):=by
 intro pins s σ H xs us Q I r h
 obtain ⟨l,ps,rfl,hl,hp,hnd,q⟩:=h
 obtain ⟨u,rfl,ru⟩:=vals1 r
 cases ru
 obtain ⟨zl,its,n,rv,ln,el⟩:=I.Ny hl
 rw [ln] at zl
 have ll:l<s.heap.objs.size:=Heap.lt_size el
 refine callType_codes (Q₁:=fun obj s₁=>obj=.ref s.heap.objs.size/\s₁={ s with heap:=s.heap.push { cls:=.type "dict",data:=.dict #[] } }) tK (mD _) PySem.F.entry_dict_init (oV _ ⟨rfl,rfl⟩) fun obj s₁ h₁=>?_
 obtain ⟨rfl,rfl⟩:=h₁
 have up:∀ c o,s.heap.get? c=some o->(s.heap.push { cls:=.type "dict",data:=.dict #[] }).get? c=some o:=fun c o e=>Heap.get?_push_of_some _ e
 have dS:(s.heap.push { cls:=.type "dict",data:=.dict #[] }).DictOf (aK X.prog X.w) s.heap.objs.size []:=Heap.DictOf.new _
 have dT:(s.heap.push { cls:=.type "dict",data:=.dict #[] }).get? s.heap.objs.size=some { cls:=.type "dict",data:=.dict #[] }:=Heap.get?_push_size _ rfl
 refine ⟨⟨_,Heap.get?_push_size _ rfl,rfl⟩,PySem.F.args_dict_init_2 _ _,?_⟩
 unfold Builtin.«dict.__init__»
 refine wpAny_bind ?_
 unfold Builtin.Dict.selfAndRest
 refine wpAny_bind (wpAny_notOrdered_dict (Heap.DictOf.typeIs (s:={ s with heap:=s.heap.push { cls:=.type "dict",data:=.dict #[] } }) dS) ?_)
 refine wpAny_pure ?_
 show wpAny _ _ (Builtin.Dict.updateFrom "dict.__init__" s.heap.objs.size (.ref l) [] .none) _ _ _
 unfold Builtin.Dict.updateFrom
 refine wpAny_bind (wpAny_typeOf (T:="list") ⟨_,up _ _ el,rfl⟩ ?_)
 rw [if_pos (by decide)]
 refine wpAny_bind (Uk (A:=X.A.in1.in1) (up _ _ el) rfl rfl rfl (I.ok.hd hc) fun h1 tk e ne=>?_)
 rw [if_pos (show (none:Option Value).isNone=true from rfl)]
 refine wpAny_bind (wpAny_rule ?_)
 have k1:∀ c o,s.heap.get? c=some o->h1.get? c=some o:=fun c o q=>ne.keeps c o (up c o q)
 have sz1:s.heap.objs.size<h1.objs.size:=by obtain ⟨o,_,_,e,_⟩:=dS; exact Heap.lt_size (ne.keeps _ _ e)
 have hl1:h1.IsList l its.toArray:=⟨_,k1 _ _ el,rfl,n,rfl⟩
 refine wpAny_bind (wpAny_pyIter_list (s:={ s with heap:=h1,toks:=tk }) hl1 ?_)
 have k2:∀ c o,h1.get? c=some o->(h1.push { cls:=.type "list_iterator",data:=.fields #[.ref l,.int 0 0] }).get? c=some o:=fun c o q=>Heap.get?_push_of_some _ q
 refine wpAny_pure ⟨plainId_quiet gR _,?_⟩
 have dz:∀ c,c<s.heap.objs.size->c≠s.heap.objs.size/\c≠h1.objs.size:=fun c hc=>⟨Nat.ne_of_lt hc,Nat.ne_of_lt (Nat.lt_trans hc sz1)⟩
 have YT:∀ c o,s.heap.get? c=some o->(h1.push { cls:=.type "list_iterator",data:=.fields #[.ref l,.int 0 0] }).get? c=some o:=fun c o e=>k2 _ _ (k1 _ _ e)
 have nln:ps.length=its.length:=by rw [<- ln,List.length_map]
 have T7:∀ b ks,H b=some (.tup (ks.map kV))->(tupleKind (aK X.prog X.w)).is (h1.push { cls:=.type "list_iterator",data:=.fields #[.ref l,.int 0 0] }) ks b:=fun b ks e=>by
   obtain ⟨o,i2,m,e1,r⟩:=qW I.hok e
   exact ⟨o,i2,m,YT _ _ e1,r⟩
 refine YS (A:=X.A.in1) (d:=s.heap.objs.size) (it:=h1.objs.size) (l:=l) (items:=its.toArray) (H:=H) (kvs:=ps.map (·.2.2)) (by show X.A.units+1+1<cLine; omega) (I.ok.hd hc) (Nat.ne_of_lt sz1) (Ne.symm (dz l ll).1) (Ne.symm (dz l ll).2) (by rw [List.length_map]; omega) (by simp only [List.size_toArray,List.length_map]; omega) (by rw [List.map_map]; exact hnd) (fun b u e=>dz b (I.hok b u e).lt) _ 0 _ rfl (Nat.zero_le _)
   ⟨[],.nil,_,#[],0,k2 _ _ (ne.keeps _ _ dT),⟨rfl,rfl,rfl⟩,rfl,rfl,List.nodup_nil⟩ ⟨_,Heap.get?_push_size _ rfl,rfl,rfl⟩ (hl1.at fun o q=>k2 _ o q) T7 (fun j kv hj=>?_) fun h3 tk3 hd3 k3=>⟨rfl,?_⟩
 . rw [List.getElem?_map] at hj
   cases ej:ps[j]? with
   | none=>rw [ej] at hj; cases hj
   | some p =>
     rw [ej] at hj
     cases (show some p.2.2=some kv from hj)
     obtain ⟨p1,p2⟩:=hp p (List.mem_of_getElem? ej)
     obtain ⟨_,i2,r2,ob⟩:=(show bQ X.prog X.w H s.heap p.1 (.tup [.ref p.2.1,p.2.2.2]) from I.hok _ _ p1)
     obtain ⟨k,v,rfl,rk,rw⟩:=vals2 r2
     cases rk
     obtain ⟨o,a2,a2'⟩:=ob.to
     have lt:=Heap.lt_size a2
     obtain ⟨u,hu',ru'⟩:=rv.get (i:=j) (x:=V.ref p.1) (by rw [List.getElem?_map,ej]; rfl)
     cases ru'
     exact ⟨p.1,p.2.1,v,by simpa using hu',⟨o,YT _ _ a2,a2'⟩,p2,rw,(dz _ lt).1,(dz _ lt).2⟩
 . have kk:∀ c o,s.heap.get? c=some o->h3.get? c=some o:=fun c o e=>k3 c o (dz c (Heap.lt_size e)).1 (dz c (Heap.lt_size e)).2 (YT _ _ e)
   obtain ⟨xs,kt,o,es,ep,g1,g2,g3,g4,g5⟩:=hd3
   refine ⟨.ref s.heap.objs.size,_,I.laid (t':=tk3) (o:=.dT (ps.map (·.2.2))) kk (Nat.le_refl _) ⟨by rw [List.length_map]; omega,beq_eq_false_iff_ne.mpr (Ne.symm (Nat.ne_of_lt I.big)),xs,kt.keeps fun b ys e=>?_,o,es,ep,g1,g2,g3,g4,g5⟩,rfl,q _ (I.hok.fresh (Nat.le_refl _))⟩
   rw [aB (Nat.ne_of_lt (I.hok b _ e).lt)]
   exact e
end
end L2
namespace L2
open PySem PySem.Spec PyProof.Rows PySem.W
namespace SA
structure SO (N:Nat) (lt:Nat->Nat->Bool):Prop where
 apP:∀ i j,i<N->j<N->lt i j=true->lt j i=false
 trans:∀ i j k,i<N->j<N->k<N->lt i j=true->lt j k=true->lt i k=true
 tot:∀ i j,i<N->j<N->i≠j->lt i j=true∨lt j i=true
def Gd (N:Nat) (p:Array Nat):Prop:=p.toList.Perm (List.range N)
theorem iy {α β:Type} {N:Nat} {lt:Nat->Nat->Bool} {f:α->KasT β}:∀ t:KasT α,cV N lt (t.bind f)=(cV N lt t).bind fun a=>cV N lt (f a)
 | .ret _=>rfl
 | .ask i j k=>by
   show (if i<N/\j<N then cV N lt ((k (lt i j)).bind f) else none)=(if i<N/\j<N then cV N lt (k (lt i j)) else none).bind _
   by_cases c:i<N/\j<N
   . rw [if_pos c,if_pos c]; exact iy _
   . rw [if_neg c,if_neg c]; rfl
section
variable {N:Nat} {lt:Nat->Nat->Bool} {p:Array Nat}
theorem wG {α:Type} {i j:Nat} {k:Bool->KasT α} (hi:i<N) (hj:j<N):cV N lt (.ask i j k)=cV N lt (k (lt i j)):=by
 show (if i<N/\j<N then cV N lt (k (lt i j)) else none)=_
 rw [if_pos ⟨hi,hj⟩]
theorem Gd.size (g:Gd N p):p.size=N:=by
 have:=g.length_eq
 rw [Array.length_toList,List.length_range] at this
 exact this
theorem getD_some {i:Nat} (h:i<p.size):p[i]?=some (p.getD i 0):=by
 simp [Array.getD,h]
theorem uP {q:Array Nat} {i j:Nat} (h:q[i]?=p[j]?):q.getD i 0=p.getD j 0:=by
 rw [Array.getD_eq_getD_getElem?,Array.getD_eq_getD_getElem?,h]
theorem Gd.lo (g:Gd N p) {i:Nat} (h:i<N):p.getD i 0<N:=by
 have e:=getD_some (p:=p) (by rw [g.size]; exact h)
 have m:p.getD i 0∈p.toList:=Array.mem_toList_iff.mpr (Array.mem_of_getElem? e)
 exact List.mem_range.mp (g.mem_iff.mp m)
theorem Gd.ne (g:Gd N p) {i j:Nat} (hi:i<N) (hj:j<N) (h:i≠j):p.getD i 0≠p.getD j 0:=fun e=>by
 have nd:p.toList.Nodup:=g.nodup_iff.mpr List.nodup_range
 have hi':i<p.toList.length:=by rw [Array.length_toList,g.size]; exact hi
 have hj':j<p.toList.length:=by rw [Array.length_toList,g.size]; exact hj
 have e1:p.toList[i]=p.toList[j]:=by
   have a:=getD_some (p:=p) (i:=i) (by rw [g.size]; exact hi)
   have b:=getD_some (p:=p) (i:=j) (by rw [g.size]; exact hj)
   rw [<- Array.getElem?_toList] at a b
   rw [List.getElem?_eq_getElem hi'] at a
   rw [List.getElem?_eq_getElem hj'] at b
   rw [Option.some.inj a,Option.some.inj b,e]
 exact h ((List.getElem_inj nd).mp e1)
theorem Gd.of {q:Array Nat} (g:Gd N p) (h:q.Perm p):Gd N q:=(Array.perm_iff_toList_perm.mp h).trans g
def SN (lt:Nat->Nat->Bool) (p:Array Nat) (m:Nat):Prop:=∀ i j,i<j->j<m->lt (p.getD i 0) (p.getD j 0)=true
def Dsc (lt:Nat->Nat->Bool) (p:Array Nat) (m:Nat):Prop:=∀ i j,i<j->j<m->lt (p.getD j 0) (p.getD i 0)=true
variable (S:SO N lt)
include S
theorem other (g:Gd N p) {i j:Nat} (hi:i<N) (hj:j<N) (h:i≠j) (n:lt (p.getD i 0) (p.getD j 0)=false):lt (p.getD j 0) (p.getD i 0)=true:=by
 rcases S.tot _ _ (g.lo hi) (g.lo hj) (g.ne hi hj h) with z | z
 . rw [n] at z; cases z
 . exact z
theorem Qz (g:Gd N p) {n:Nat} (h1:1<=n) (hn:n<N) (a:SN lt p n) (l:lt (p.getD (n-1) 0) (p.getD n 0)=true):SN lt p (n+1):=fun i j ij hj=>by
 by_cases c:j<n
 . exact a i j ij c
 . obtain rfl:j=n:=by omega
   by_cases c2:i=j-1
   . rw [c2]; exact l
   . exact S.trans _ _ _ (g.lo (by omega)) (g.lo (by omega)) (g.lo hn) (a i (j-1) (by omega) (by omega)) l
theorem QB (g:Gd N p) {n:Nat} (h1:1<=n) (hn:n<N) (a:Dsc lt p n) (l:lt (p.getD n 0) (p.getD (n-1) 0)=true):Dsc lt p (n+1):=fun i j ij hj=>by
 by_cases c:j<n
 . exact a i j ij c
 . obtain rfl:j=n:=by omega
   by_cases c2:i=j-1
   . rw [c2]; exact l
   . exact S.trans _ _ _ (g.lo hn) (g.lo (by omega)) (g.lo (by omega)) l (a i (j-1) (by omega) (by omega))
theorem Gn (g:Gd N p):∀ (f n:Nat),1<=n->n+f<=N->SN lt p n->∃ m,cV N lt (kas_asc p f n)=some m/\n<=m/\m<=n+f/\SN lt p m/\(m<n+f->lt (p.getD m 0) (p.getD (m-1) 0)=true)
 | 0,n,_,_,a=>⟨n,rfl,Nat.le_refl _,Nat.le_refl _,a,fun h=>absurd h (by omega)⟩
 | f+1,n,h1,h2,a=>by
   unfold kas_asc
   rw [wG (g.lo (by omega)) (g.lo (by omega))]
   cases c:lt (p.getD n 0) (p.getD (n-1) 0) with
   | true=>exact ⟨n,rfl,Nat.le_refl _,by omega,a,fun _=>c⟩
   | false =>
     obtain ⟨m,r,m1,m2,m3,m4⟩:=Gn g f (n+1) (by omega) (by omega) (Qz S g h1 (by omega) a (other S g (by omega) (by omega) (by omega) c))
     exact ⟨m,r,by omega,by omega,m3,fun h=>m4 (by omega)⟩
theorem QC (g:Gd N p):∀ (f n:Nat),1<=n->n+f<=N->Dsc lt p n->∃ m,cV N lt (kas_desc f p n 0)=some (p,m,0)/\n<=m/\m<=n+f/\Dsc lt p m
 | 0,n,_,_,a=>⟨n,rfl,Nat.le_refl _,Nat.le_refl _,a⟩
 | f+1,n,h1,h2,a=>by
   unfold kas_desc
   rw [wG (g.lo (by omega)) (g.lo (by omega))]
   cases c:lt (p.getD n 0) (p.getD (n-1) 0) with
   | true =>
     obtain ⟨m,r,m1,m2,m3⟩:=QC g f (n+1) (by omega) (by omega) (QB S g h1 (by omega) a c)
     exact ⟨m,r,by omega,by omega,m3⟩
   | false =>
     show ∃ m,cV N lt (.ask (p.getD (n-1) 0) (p.getD n 0) _)=_/\_
     rw [wG (g.lo (by omega)) (g.lo (by omega)),other S g (by omega) (by omega) (by omega) c]
     exact ⟨n,rfl,Nat.le_refl _,by omega,a⟩
omit S in
theorem YW (g:Gd N p) {n:Nat} (hn:n<=N) (a:Dsc lt p n):Gd N (kas_rev p 0 n)/\SN lt (kas_rev p 0 n) n:=by
 refine ⟨g.of (mirror_perm _ _ _ _),fun i j ij hj=>?_⟩
 have e:∀ k,k<n->(kas_rev p 0 n).getD k 0=p.getD (n-1-k) 0:=fun k hk=>uP (by
   unfold kas_rev
   rw [getElem?_mirror_all (by rw [g.size]; exact hn)]
   rw [if_pos ⟨Nat.zero_le _,hk⟩,show 0+n-1-k=n-1-k by omega])
 rw [e i (by omega),e j hj]
 exact a _ _ (by omega) (by omega)
theorem QD (g:Gd N p) (h2:2<=N):∃ m p',cV N lt (kas_count N p)=some (m,p')/\1<=m/\m<=N/\Gd N p'/\SN lt p' m:=by
 unfold kas_count
 rw [iy]
 obtain ⟨m,r,m1,m2,m3,m4⟩:=Gn S g (N-1) 1 (Nat.le_refl _) (by omega) (fun i j ij hj=>absurd ij (by omega))
 rw [r]
 show ∃ _ _,cV N lt (if (m == N)=true then _ else _)=_/\_
 by_cases c:m=N
 . rw [if_pos (beq_iff_eq.mpr c)]
   exact ⟨m,p,rfl,m1,by omega,g,m3⟩
 . rw [if_neg (fun z=>c (beq_iff_eq.mp z))]
   by_cases c1:m > 1
   . rw [if_pos c1,wG (g.lo (by omega)) (g.lo (by omega)),m3 0 (m-1) (by omega) (by omega)]
     exact ⟨m,p,rfl,m1,by omega,g,m3⟩
   . rw [if_neg c1]
     obtain rfl:m=1:=by omega
     unfold kas_descPart
     rw [iy]
     have d2:Dsc lt p 2:=fun i j ij hj=>by
       obtain rfl:j=1:=by omega
       obtain rfl:i=0:=by omega
       exact m4 (by omega)
     obtain ⟨q,rq,q1,q2,q3⟩:=QC S g (N-2) 2 (by omega) (by omega) d2
     rw [show N-(1+1)=N-2 by omega,rq]
     show ∃ _ _,cV N lt (kas_tail3 q N p)=_/\_
     unfold kas_tail3
     obtain ⟨g',a'⟩:=YW g (by omega) q3
     obtain ⟨k,rk',k1,k2,k3,_⟩:=Gn S g' (N-q) q (by omega) (by omega) a'
     rw [iy,rk']
     exact ⟨k,_,rfl,by omega,by omega,g',k3⟩
theorem wH (g:Gd N p) {k:Nat} (hk:k<N) (a:SN lt p k):∀ (f l r:Nat),l<=r->r<=k->r-l<=f->(∀ i,i<l->lt (p.getD i 0) (p.getD k 0)=true)->(∀ i,r<=i->i<k->lt (p.getD k 0) (p.getD i 0)=true) ->
   ∃ m,cV N lt (kas_place p k f l r)=some m/\m<=k/\(∀ i,i<m->lt (p.getD i 0) (p.getD k 0)=true)/\∀ i,m<=i->i<k->lt (p.getD k 0) (p.getD i 0)=true
 | 0,l,r,h1,h2,h3,lo,hi=>⟨l,rfl,by omega,lo,fun i a b=>hi i (by omega) b⟩
 | f+1,l,r,h1,h2,h3,lo,hi=>by
   unfold kas_place
   by_cases c:l ≥ r
   . rw [if_pos c]
     exact ⟨l,rfl,by omega,lo,fun i a b=>hi i (by omega) b⟩
   . rw [if_neg c,wG (g.lo hk) (g.lo (by omega))]
     cases d:lt (p.getD k 0) (p.getD ((l+r) / 2) 0) with
     | true =>
       refine wH g hk a f l ((l+r) / 2) (by omega) (by omega) (by omega) lo fun i h4 h5=>?_
       by_cases e:i=(l+r) / 2
       . rw [e]; exact d
       . exact S.trans _ _ _ (g.lo hk) (g.lo (by omega)) (g.lo (by omega)) d (a _ _ (by omega) h5)
     | false =>
       refine wH g hk a f ((l+r) / 2+1) r (by omega) h2 (by omega) (fun i h4=>?_) hi
       have z:=other S g hk (by omega) (by omega) d
       by_cases e:i=(l+r) / 2
       . rw [e]; exact z
       . exact S.trans _ _ _ (g.lo (by omega)) (g.lo (by omega)) (g.lo hk) (a _ _ (by omega) (by omega)) z
theorem QF:∀ (f:Nat) {p:Array Nat} {k:Nat},Gd N p->1<=k->k+f=N->SN lt p k->∃ p',cV N lt (kas_bin f p k)=some p'/\Gd N p'/\SN lt p' N
 | 0,p,k,g,_,e,a=>⟨p,rfl,g,by rw [<- e]; exact a⟩
 | f+1,p,k,g,h1,e,a=>by
   unfold kas_bin
   rw [iy]
   obtain ⟨m,r,m1,lo,hi⟩:=wH S g (k:=k) (by omega) a k 0 k (Nat.zero_le _) (Nat.le_refl _) (by omega) (fun i h=>absurd h (by omega)) (fun i h h'=>absurd h (by omega))
   rw [r]
   have g':Gd N (bubble p k (k-m)):=g.of (bubble_perm _ _ _)
   refine QF f g' (by omega) (by omega) fun i j ij hj=>?_
   have v:∀ t,(bubble p k (k-m)).getD t 0=if t=m then p.getD k 0 else if m<t/\t<=k then p.getD (t-1) 0 else p.getD t 0:=fun t=>by
     have z:=getElem?_bubble (xs:=p) (src:=k) (by rw [g.size]; omega) (k-m) (by omega) t
     rw [show k-(k-m)=m by omega] at z
     by_cases c:t=m
     . rw [if_pos c] at z ⊢; exact uP z
     . rw [if_neg c] at z ⊢
       by_cases c2:m<t/\t<=k
       . rw [if_pos c2] at z ⊢; exact uP z
       . rw [if_neg c2] at z ⊢; exact uP z
   rw [v i,v j]
   by_cases c:i=m
   . rw [if_pos c,if_neg (by omega),if_pos (by omega)]
     exact hi _ (by omega) (by omega)
   . rw [if_neg c]
     by_cases c2:m<i/\i<=k
     . rw [if_pos c2,if_neg (by omega),if_pos (by omega)]
       exact a _ _ (by omega) (by omega)
     . rw [if_neg c2]
       by_cases c3:j=m
       . rw [if_pos c3]; exact lo _ (by omega)
       . rw [if_neg c3]
         by_cases c4:m<j/\j<=k
         . rw [if_pos c4]; exact a _ _ (by omega) (by omega)
         . rw [if_neg c4]; exact a _ _ ij (by omega)
theorem Vh (h2:2<=N):∃ p,cV N lt (kas_sort N)=some p/\Gd N p/\SN lt p N:=by
 unfold kas_sort
 rw [iy]
 obtain ⟨m,p',r,m1,m2,g,a⟩:=QD S (p:=(List.range N).toArray) (by show ((List.range N).toArray.toList).Perm _; rw [List.toList_toArray]) h2
 rw [r]
 show ∃ p,cV N lt (if m<N then kas_bin (N-max m 1) p' (max m 1) else .ret p')=some p/\_
 rw [show max m 1=m by omega]
 by_cases c:m<N
 . rw [if_pos c]
   exact QF S (N-m) g m1 (by omega) a
 . rw [if_neg c]
   obtain rfl:m=N:=by omega
   exact ⟨p',rfl,g,a⟩
end
end SA
theorem QG {κ:Type} {lt:κ->κ->Bool} (S:Strict lt) {ks:List κ} (hn:ks.Nodup) (h2:2<=ks.length) (d:κ) :
   ∃ p:Array Nat,cV ks.length (fun i j=>lt (ks.getD i d) (ks.getD j d)) (kas_sort ks.length)=some p/\(p.toList.map fun i=>ks.getD i d).Perm ks/\(p.toList.map fun i=>ks.getD i d).Pairwise (fun a b=>lt a b=true)/\p.toList.Perm (List.range ks.length):=by
 have so:SA.SO ks.length (fun i j=>lt (ks.getD i d) (ks.getD j d)):=by
   refine ⟨fun i j _ _ h=>?_,fun i j k _ _ _ h1 h2=>S.trans _ _ _ h1 h2,fun i j hi hj ne=>S.tot _ _ fun e=>ne ?_⟩
   . cases c:lt (ks.getD j d) (ks.getD i d) with
     | false=>rfl
     | true=>have z:=S.trans _ _ _ h c; rw [S.Im] at z; cases z
   . simp only [List.getD,List.getElem?_eq_getElem hi,List.getElem?_eq_getElem hj,Option.getD_some] at e
     exact (List.getElem_inj hn).mp e
 obtain ⟨p,r,g,a⟩:=SA.Vh so h2
 have all:((List.range ks.length).map fun i=>ks.getD i d)=ks:=by
   apply List.ext_getElem
   . simp
   . intro i h1 h2
     simp [List.getD,h2]
 refine ⟨p,r,?_,?_,g⟩
 . have z:=List.Perm.map (fun i=>ks.getD i d) g
   rw [all] at z
   exact z
 . rw [List.pairwise_map,List.pairwise_iff_getElem]
   intro i j hi hj ij
   have sz:=g.size
   rw [Array.length_toList] at hi hj
   have z:=a i j ij (by omega)
   have ei:p.getD i 0=p.toList[i]'(by rw [Array.length_toList]; exact hi):=by simp [Array.getD,hi]
   have ej:p.getD j 0=p.toList[j]'(by rw [Array.length_toList]; exact hj):=by simp [Array.getD,hj]
   rw [ei,ej] at z
   exact z
end L2
namespace L2
open PySem PySem.Spec PyProof.Rows PySem.W
structure Kd (α:Type) where
 key:α->Key
 val:α->Value->Prop
 lt:α->α->Bool
 ty:String
 inj:∀ a b,key a=key b->a=b
 strict:Strict lt
 is:∀ x v,val x v->jB (key x) v=true
 first:∀ (prog:Program) (w:World) (A:Around) (E:Value->Shared->Prop) (s:Shared) (x y:α) (v u:Value) (Q:Bool->Shared->Prop),val x v->val y u->Q (lt x y) s->wpAny (model prog w) A (oneLt' true v u) Q E s
 next:∀ (prog:Program) (w:World) (A:Around) (E:Value->Shared->Prop) (s:Shared) (x y:α) (v u:Value) (Q:Bool->Shared->Prop),val x v->val y u->Q (lt x y) s->wpAny (model prog w) A (oneLt' false v u) Q E s
 YX:(Value.type ty != Value.type "tuple")=true
 same:(Value.type ty == Value.type ty)=true
 vv:α->V
 rel:∀ x u,RelV (vv x) u->val x u
 looks:∀ (M:Model) (h:Heap) (x:α) (v:Value),val x v->Looks M h (typeOf v) (.type ty)
def kdS:Kd Str where
 key:=Sum.inr
 val x v:=∃ t,v=.str x t
 lt:=slt
 ty:="str"
 inj:=fun _ _ h=>Sum.inr.inj h
 strict:=jG
 is:=fun x v ⟨t,e⟩=>by rw [e]; exact qQ x t
 first:=fun _ _ _ _ _ _ _ _ _ _ ⟨_,e⟩ ⟨_,e'⟩ q=>by rw [e,e']; exact oneLt_str q
 next:=fun _ _ _ _ _ _ _ _ _ _ ⟨_,e⟩ ⟨_,e'⟩ q=>by rw [e,e']; exact kat_one _ _ (PySem.P.lt_str q)
 YX:=rfl
 same:=rfl
 vv:=V.str
 rel:=fun _ _ h=>h
 looks:=fun _ _ _ _ ⟨_,e⟩=>by rw [e]; exact .now
def YZ:Kd Int where
 key i:=Sum.inl (some i)
 val x v:=∃ t,v=.int x t
 lt i j:=decide (i<j)
 ty:="int"
 inj:=fun _ _ h=>Option.some.inj (Sum.inl.inj h)
 strict:=⟨fun a=>decide_eq_false (by omega),fun a b c h1 h2=>decide_eq_true (by have:=of_decide_eq_true h1; have:=of_decide_eq_true h2; omega),fun a b h=>by
   rcases Int.lt_or_gt_of_ne h with z | z
   . exact .inl (decide_eq_true z)
   . exact .inr (decide_eq_true z)⟩
 is:=fun x v ⟨t,e⟩=>by rw [e]; exact qP x t
 first:=fun _ _ _ _ _ _ _ _ _ _ ⟨_,e⟩ ⟨_,e'⟩ q=>by rw [e,e']; exact oneLt_int q
 next:=fun _ _ _ _ _ _ _ _ _ _ ⟨_,e⟩ ⟨_,e'⟩ q=>by rw [e,e']; exact kat_one _ _ (PySem.P.lt_int q)
 YX:=rfl
 same:=rfl
 vv:=V.int
 rel:=fun _ _ h=>h
 looks:=fun _ _ _ _ ⟨_,e⟩=>by rw [e]; exact .now
section
variable {α β:Type} [DecidableEq α] [DecidableEq β] [Inhabited α] [Inhabited β] (K1:Kd α) (K2:Kd β)
def Jk (a b:α × β):Bool:=if a.1=b.1 then (if a.2=b.2 then false else K2.lt a.2 b.2) else K1.lt a.1 b.1
omit [Inhabited α] [Inhabited β] in
theorem pI:Strict (Jk K1 K2) where
 Im:=fun a=>by unfold Jk; rw [if_pos rfl,if_pos rfl]
 trans:=fun a b c h1 h2=>by
   unfold Jk at h1 h2 ⊢
   by_cases e1:a.1=b.1
   . rw [if_pos e1] at h1
     by_cases f1:a.2=b.2
     . rw [if_pos f1] at h1; cases h1
     . rw [if_neg f1] at h1
       by_cases e2:b.1=c.1
       . rw [if_pos e2] at h2
         by_cases f2:b.2=c.2
         . rw [if_pos f2] at h2; cases h2
         . rw [if_neg f2] at h2
           have z:=K2.strict.trans _ _ _ h1 h2
           rw [if_pos (e1.trans e2),if_neg (fun y=>by rw [y,K2.strict.Im] at z; cases z)]
           exact z
       . rw [if_neg e2] at h2
         rw [e1,if_neg e2]; exact h2
   . rw [if_neg e1] at h1
     by_cases e2:b.1=c.1
     . rw [<- e2,if_neg e1]; exact h1
     . rw [if_neg e2] at h2
       have z:=K1.strict.trans _ _ _ h1 h2
       rw [if_neg (fun y=>by rw [y,K1.strict.Im] at z; cases z)]
       exact z
 tot:=fun a b h=>by
   unfold Jk
   by_cases e:a.1=b.1
   . have f:a.2≠b.2:=fun z=>h (Prod.ext e z)
     rw [if_pos e,if_neg f,if_pos e.symm,if_neg (Ne.symm f)]
     exact K2.strict.tot _ _ f
   . rw [if_neg e,if_neg (Ne.symm e)]
     exact K1.strict.tot _ _ e
omit [DecidableEq α] [DecidableEq β] [Inhabited α] [Inhabited β]
def QH (h:Heap) (a:Addr) (v:Value) (k:α × β):Prop:=∃ b o m v1 v2 rest,v=.ref b/\b≠a/\h.get? b=some o/\o.cls=.type "tuple"/\o.data=.seq (v1 :: v2 :: rest:List Value).toArray m/\K1.val k.1 v1/\K2.val k.2 v2/\∀ u∈rest,∃ q:Key,jB q u=true
inductive g8 (h:Heap) (a:Addr):List Value->List (α × β)->Prop
 | nil:g8 h a [] []
 | cons {v:Value} {vs:List Value} {k:α × β} {ks:List (α × β)}:QH K1 K2 h a v k->g8 h a vs ks->g8 h a (v :: vs) (k :: ks)
variable {K1 K2}
theorem g8.len {h:Heap} {a:Addr} {vs:List Value} {ks:List (α × β)} (p:g8 K1 K2 h a vs ks):vs.length=ks.length:=by
 induction p with
 | nil=>rfl
 | cons _ _ ih=>rw [List.length_cons,List.length_cons,ih]
theorem g8.get [Inhabited α] [Inhabited β] {h:Heap} {a:Addr} {vs:List Value} {ks:List (α × β)} (p:g8 K1 K2 h a vs ks):∀ i,i<ks.length->QH K1 K2 h a (vs.getD i Value.none) (ks.getD i (default,default)):=by
 induction p with
 | nil=>intro i hi; exact absurd hi (Nat.not_lt_zero _)
 | cons q _ ih =>
   intro i hi
   cases i with
   | zero=>exact q
   | succ i=>exact ih i (by simpa using hi)
theorem g8.keep {h h':Heap} {a:Addr} {vs:List Value} {ks:List (α × β)} (p:g8 K1 K2 h a vs ks) (k:∀ b o,b≠a->h.get? b=some o->h'.get? b=some o):g8 K1 K2 h' a vs ks:=by
 induction p with
 | nil=>exact .nil
 | cons q _ ih =>
   obtain ⟨b,o,m,v1,v2,rest,e,nb,g,r⟩:=q
   exact .cons ⟨b,o,m,v1,v2,rest,e,nb,k b o nb g,r⟩ ih
theorem g8.of [Inhabited α] [Inhabited β] {h:Heap} {a:Addr}:∀ {vs:List Value} {ks:List (α × β)},vs.length=ks.length->(∀ i,i<ks.length->QH K1 K2 h a (vs.getD i Value.none) (ks.getD i (default,default)))->g8 K1 K2 h a vs ks
 | [],[],_,_=>.nil
 | v :: vs,k :: ks,hl,f=>.cons (f 0 (Nat.succ_pos _)) (g8.of (by simpa using hl) fun i hi=>f (i+1) (Nat.succ_lt_succ hi))
 | [],_ :: _,hl,_=>by simp at hl
 | _ :: _,[],hl,_=>by simp at hl
end
section
variable {α β:Type} [DecidableEq α] [DecidableEq β] [Inhabited α] [Inhabited β] {K1:Kd α} {K2:Kd β}
variable {prog:Program} {w:World} {A:Around} {E:Value->Shared->Prop} {s:Shared}
omit [DecidableEq α] [DecidableEq β] [Inhabited α] [Inhabited β] in
theorem Du {b fin:Bool} {Q:Bool->Shared->Prop} (q:Q fin s):∀ (rest:List Value) (i:Nat),(∀ u∈rest,∃ q:Key,jB q u=true)->KatLex prog w A b fin Q (rest.zip rest) i s
 | [],_,_=>kat_nil q
 | u :: r,i,h=>by
   obtain ⟨k,hk⟩:=h u List.mem_cons_self
   refine kat_cons ((aK prog w).eqBool (show (aK prog w).is k u=true from hk) (show (aK prog w).is k u=true from hk) ?_)
   rw [decide_eq_true rfl]
   exact kat_yes (Du q r (i+1) fun v hv=>h v (List.mem_cons_of_mem _ hv))
omit [Inhabited α] [Inhabited β] in
theorem Vi {a:Addr} {v v':Value} {k k':α × β} {Q:Bool->Shared->Prop} (p:QH K1 K2 s.heap a v k) (p':QH K1 K2 s.heap a v' k') (hd:k=k'->v=v') (q:Q (Jk K1 K2 k k') s):wpAny (model prog w) A (keyLt' (tuples' true) v v') Q E s:=by
 obtain ⟨b,o,m,v1,v2,rest,rfl,_,g,c,d,h1,h2,h3⟩:=p
 obtain ⟨b',o',m',u1,u2,rest',rfl,_,g',c',d',h1',h2',h3'⟩:=p'
 unfold Jk at q
 have k1:(aK prog w).is (K1.key k.1) v1=true:=K1.is _ _ h1
 have k2:(aK prog w).is (K2.key k.2) v2=true:=K2.is _ _ h2
 have k1':(aK prog w).is (K1.key k'.1) u1=true:=K1.is _ _ h1'
 have k2':(aK prog w).is (K2.key k'.2) u2=true:=K2.is _ _ h2'
 by_cases e:k.1=k'.1
 . rw [if_pos e] at q
   by_cases f:k.2=k'.2
   . rw [if_pos f] at q
     have eb:b=b':=Value.ref.inj (hd (Prod.ext e f))
     subst eb
     rw [g] at g'
     cases g'
     refine kat_lt g d g d ?_
     show KatLex prog w A true (decide (_<_)) Q ((v1 :: v2 :: rest).zip (v1 :: v2 :: rest)) 0 s
     rw [decide_eq_false (Nat.lt_irrefl _)]
     refine Du q _ 0 fun u hu=>?_
     rcases List.mem_cons.mp hu with rfl | hu
     . exact ⟨_,K1.is _ _ h1⟩
     . rcases List.mem_cons.mp hu with rfl | hu
       . exact ⟨_,K2.is _ _ h2⟩
       . exact h3 u hu
   . rw [if_neg f] at q
     refine kat_lt g d g' d' ?_
     show KatLex prog w A true (decide (_<_)) Q ((v1,u1) :: (v2,u2) :: rest.zip rest') 0 s
     refine kat_cons ((aK prog w).eqBool k1 k1' ?_)
     rw [show decide (K1.key k.1=K1.key k'.1)=true from decide_eq_true (by rw [e])]
     refine kat_yes (kat_cons ((aK prog w).eqBool k2 k2' ?_))
     rw [show decide (K2.key k.2=K2.key k'.2)=false from decide_eq_false (fun z=>f (K2.inj _ _ z))]
     refine kat_no ?_
     show wpAny _ A (oneLt' false _ _) Q _ s
     exact K2.next _ _ _ _ _ _ _ _ _ _ h2 h2' q
 . rw [if_neg e] at q
   refine kat_lt g d g' d' ?_
   show KatLex prog w A true (decide (_<_)) Q ((v1,u1) :: (v2,u2) :: rest.zip rest') 0 s
   refine kat_cons ((aK prog w).eqBool k1 k1' ?_)
   rw [show decide (K1.key k.1=K1.key k'.1)=false from decide_eq_false (fun z=>e (K1.inj _ _ z))]
   refine kat_no ?_
   show wpAny _ A (oneLt' true _ _) Q _ s
   exact K1.first _ _ _ _ _ _ _ _ _ _ h1 h1' q
omit [DecidableEq α] [DecidableEq β] [Inhabited α] [Inhabited β] in
theorem Li {h:Heap} {a:Addr} {vs:List Value} {ks:List (α × β)} (p:g8 K1 K2 h a vs ks):∃ fs,KatTups h vs fs/\fs.length=ks.length/\∀ v∈fs,∃ x,K1.val x v:=by
 induction p with
 | nil=>exact ⟨[],.nil,rfl,fun v h=>by cases h⟩
 | cons q _ ih =>
   obtain ⟨fs,h1,h2,h3⟩:=ih
   obtain ⟨b,o,m,v1,v2,rest,rfl,_,g,c,d,hv,_⟩:=q
   refine ⟨v1 :: fs,.cons g c d (by rfl) h1,by rw [List.length_cons,List.length_cons,h2],fun v hv'=>?_⟩
   rcases List.mem_cons.mp hv' with e | e
   . rw [e]; exact ⟨_,hv⟩
   . exact h3 v e
theorem Vj {γ:Type} [Inhabited γ] {ks:List γ} (hn:ks.Nodup) {i j:Nat} {d:γ} (hi:i<ks.length) (hj:j<ks.length) (e:ks.getD i d=ks.getD j d):i=j:=by
 simp only [List.getD,List.getElem?_eq_getElem hi,List.getElem?_eq_getElem hj,Option.getD_some] at e
 exact (List.getElem_inj hn).mp e
theorem Lj {a:Addr} {vs:List Value} {ks:List (α × β)} {n:Nat} {P:Fin->Shared->Prop} (ho:s.heap.get? a=some (seqObj "list" vs.toArray n)) (hp:g8 K1 K2 s.heap a vs ks) (hn:ks.Nodup) (h6:ks.length<64)
   (h:∀ (l:List Nat),l.Perm (List.range ks.length)->(l.map fun i=>ks.getD i (default,default)).Perm ks->(l.map fun i=>ks.getD i (default,default)).Pairwise (fun x y=>Jk K1 K2 x y=true)->P (.done (.ret .none)) { s with heap:=sortedHeap s.heap a vs (l.map fun i=>vs.getD i Value.none).toArray }) :
   wpAny (model prog w) A (Builtin.«list.sort» ⟨[.ref a],[]⟩) P E s:=by
 have mC:sizeLine=16777216:=sizeLine_eq
 have len:=hp.len
 rw [list_sort_plain]
 have la:a<s.heap.objs.size:=Heap.lt_size ho
 refine wpAny_bind (listItems_at ho rfl (wpAny_bind (listUpdate_at ho rfl ?_ (by rw [List.size_toArray]; omega) (Nat.zero_le _))))
 obtain ⟨e1,g1⟩:∃ e1,(s.heap.update a (Obj.mapSeq fun _=>#[])).get? a=some (seqObj "list" #[] e1):=⟨_,get?_update_seq ho (fun _=>#[])⟩
 refine wpAny_bind (seqEpoch_at g1 rfl (wpAny_bind (wpAny_newTuple ?_ (by simp; omega))))
 refine wpAny_bind (wpAny_newList ?_ (Nat.zero_le _))
 refine wpAny_holding ?_
 have g6:(((s.heap.update a (Obj.mapSeq fun _=>#[])).push (seqObj "tuple" vs.toArray 0)).push (seqObj "list" #[] 0)).get? a=some (seqObj "list" #[] e1):=Heap.get?_push_of_some _ (Heap.get?_push_of_some _ g1)
 have kk:∀ b o,b≠a->s.heap.get? b=some o->(((s.heap.update a (Obj.mapSeq fun _=>#[])).push (seqObj "tuple" vs.toArray 0)).push (seqObj "list" #[] 0)).get? b=some o:=fun b o nb e =>
   Heap.get?_push_of_some _ (Heap.get?_push_of_some _ (((Heap.SameBut.update s.heap a _).2 b nb).trans e))
 show wpAny (model prog w) A _ P E { s with heap:=((s.heap.update a (Obj.mapSeq fun _=>#[])).push (seqObj "tuple" vs.toArray 0)).push (seqObj "list" #[] 0) }
 dsimp only
 have sz:vs.toArray.size=vs.length:=by simp
 by_cases c2:vs.toArray.size<2
 . rw [if_pos c2,if_pos c2]
   refine wpAny_bind (wpAny_pure ?_)
   rw [StateT.run_pure]
   refine wpAny_bind (wpAny_pure ?_)
   dsimp only
   refine wpAny_bind (seqEpoch_at g6 rfl ?_)
   have em:((vs.toArray.zip vs.toArray).map (·.2))=vs.toArray:=by
     apply Array.toList_inj.mp
     rw [Array.toList_map,Array.toList_zip]
     exact List.map_snd_zip (Nat.le_refl _)
   refine wpAny_bind (listUpdate_at g6 rfl ?_ (Nat.zero_le _) (by show ((vs.toArray.zip vs.toArray).map (·.2)).size<=_; rw [em,sz]; omega))
   simp only [bne_self_eq_false,Bool.false_eq_true,if_false]
   refine wpAny_pure ?_
   show P _ { s with heap:=sortedHeap s.heap a vs ((vs.toArray.zip vs.toArray).map (·.2)) }
   rw [em]
   have all:∀ {α:Type} (xs:List α) (d:α),((List.range xs.length).map fun i=>xs.getD i d)=xs:=fun xs d=>by
     apply List.ext_getElem
     . simp
     . intro i h1 h2
       simp [List.getD,h2]
   have fin:=h (List.range ks.length) (List.Perm.refl _) (by rw [all]) (by
     rw [all]
     match ks,len with
     | [],_=>exact List.Pairwise.nil
     | [_],_=>exact List.pairwise_singleton _ _
     | _ :: _ :: _,len=>rw [sz,len,List.length_cons,List.length_cons] at c2; omega)
   rw [<- len,all] at fin
   exact fin
 . rw [if_neg c2,if_neg c2]
   have p6:=hp.keep kk
   obtain ⟨fs,t1,t2,t3⟩:=Li p6
   obtain ⟨p,r1,r2,r3,r4⟩:=QG (pI K1 K2) hn (by omega) (default,default)
   refine wpAny_bind (kat_kind (T:=.type K1.ty) t1 (by omega) (fun v hv=>?_) K1.same ?_)
   . obtain ⟨x,hx⟩:=t3 v hv
     exact K1.looks _ _ _ _ hx
   . rw [K1.YX]
     refine wpAny_bind (wpAny_mono (kat_run (ks:=vs) (vs:=vs) (κ:=tuples' true) (Q:=fun st' s'=>s'={ s with heap:=((s.heap.update a (Obj.mapSeq fun _=>#[])).push (seqObj "tuple" vs.toArray 0)).push (seqObj "list" #[] 0) }/\arrOf st'=p.map (kas_item (vs.toArray.zip vs.toArray))/\failedOf st'=none/\p.size=vs.length)
       (G:=fun p' s'=>p'=p/\s'={ s with heap:=((s.heap.update a (Obj.mapSeq fun _=>#[])).push (seqObj "tuple" vs.toArray 0)).push (seqObj "list" #[] 0) }) rfl (by omega) (by omega) (fun p' st' s' q1 q2 q3 ⟨q4,q5⟩=>by subst q4; exact ⟨q5,q2,q3,q1⟩)
       (vA (n:=ks.length) (lt:=fun i j=>Jk K1 K2 (ks.getD i (default,default)) (ks.getD j (default,default))) (fun i j C hi hj hC=>Vi (p6.get i hi) (p6.get j hj) (fun ek=>by rw [Vj hn hi hj ek]) hC) _ p _ (by rw [len]; exact r1) ⟨rfl,rfl⟩)) ?_ fun _ _ e=>e)
     rintro ⟨⟨⟩,st'⟩ s' ⟨rfl,har,hf,hsz⟩
     dsimp only
     have em:=kat_snds (vs:=vs) rfl har
     refine wpAny_bind (seqEpoch_at g6 rfl ?_)
     have psz:p.toList.length=vs.length:=by rw [Array.length_toList]; exact hsz
     refine wpAny_bind (listUpdate_at g6 rfl ?_ (Nat.zero_le _) (by rw [em,List.size_toArray,List.length_map,psz]; omega))
     rw [hf]
     simp only [bne_self_eq_false,Bool.false_eq_true,if_false]
     refine wpAny_pure ?_
     show P _ { s with heap:=sortedHeap s.heap a vs ((arrOf st').map (·.2)) }
     rw [em]
     exact h p.toList r4 r2 r3
theorem wI {x:Value} {ks:List (α × β)} {T:List Value->Prop} {Q:Value->Shared->Prop} (hn:ks.Nodup) (h6:ks.length<64)
   (col:∀ (R:List Value->Shared->Prop),(∀ (h':Heap) (tk:Nat) (vs:List Value),(∀ b o,s.heap.get? b=some o->h'.get? b=some o)->g8 K1 K2 h' h'.objs.size vs ks->T vs->R vs { s with heap:=h',toks:=tk })->wpAny (model prog w) A.in1 (collect x) R E s)
   (h:∀ (h1 h':Heap) (tk:Nat) (vs:List Value) (l:List Nat) (n:Nat),(∀ b o,s.heap.get? b=some o->h1.get? b=some o)->(∀ b o,h1.get? b=some o->h'.get? b=some o)->T vs->vs.length=ks.length->h'.get? h1.objs.size=some (seqObj "list" (l.map fun i=>vs.getD i Value.none).toArray n) ->
     l.Perm (List.range ks.length)->(l.map fun i=>ks.getD i (default,default)).Perm ks->(l.map fun i=>ks.getD i (default,default)).Pairwise (fun x y=>Jk K1 K2 x y=true)->Q (.ref h1.objs.size) { s with heap:=h',toks:=tk }) :
   wpAny (model prog w) A (call (.builtin "sorted") [x]) Q E s:=by
 refine (Calls.call_function_entry kind_sorted plain_sorted entry_sorted (args_sorted1 _) ?_)
 unfold Builtin.«sorted»
 refine (wpAny_bind (m:=checkCount "sorted" 1 1 _) (wpAny_pure ?_))
 refine wpAny_bind (col _ fun h' tk vs kk hS hT=>?_)
 have hl:=hS.len
 have mC:sizeLine=16777216:=sizeLine_eq
 refine wpAny_bind (wpAny_newList ?_ (by omega))
 have g0:(h'.push (seqObj "list" vs.toArray 0)).get? h'.objs.size=some (seqObj "list" vs.toArray 0):=Heap.get?_push_size _ rfl
 refine wpAny_bind (wpAny_holding (wpAny_call_entry slot_list_sort (s:={ s with heap:=h'.push (seqObj "list" vs.toArray 0),toks:=tk }) ⟨_,g0,rfl⟩ entry_list_sort
   (Lj (s:={ s with heap:=h'.push (seqObj "list" vs.toArray 0),toks:=tk }) g0 (hS.keep fun b o _ e=>Heap.get?_push_of_some _ e) hn h6 fun l l1 l2 l3=>⟨_,rfl,?_⟩) (args_list_sort _)))
 obtain ⟨n,gn⟩:=sortedHeap_at (vs:=vs) (out:=(l.map fun i=>vs.getD i Value.none).toArray) g0
 refine wpAny_pure ⟨_,rfl,h h' _ tk vs l n kk (fun b o e1=>?_) hT hl gn l1 l2 l3⟩
 have lt:b<h'.objs.size:=Heap.lt_size e1
 show (sortedHeap (h'.push (seqObj "list" vs.toArray 0)) h'.objs.size vs _).get? b=some o
 rw [sortedHeap_old (Nat.ne_of_lt lt) (by rw [Heap.size_push]; exact Nat.lt_succ_of_lt lt)]
 exact Heap.get?_push_of_some _ e1
def Gp:V->Bool
 | .int _=>true | .str _=>true | .non=>true | _=>false
theorem Lk {v:V} {u:Value} (h:Gp v=true) (r:RelV v u):∃ q:Key,jB q u=true:=by
 cases v <;> first | (cases h; done) | skip
 . cases r; exact ⟨.inl none,uT⟩
 . obtain ⟨t,rfl⟩:=r; exact ⟨_,qP _ t⟩
 . obtain ⟨t,rfl⟩:=r; exact ⟨_,qQ _ t⟩
theorem Jl:∀ {as:List Addr} {us:List Value},Vals (as.map V.ref) us->us=as.map Value.ref
 | [],_,.nil=>rfl
 | a :: as,_,.cons h r=>by cases h; rw [Jl r]; rfl
theorem wJ:∀ {vs:List V} {us:List Value},Vals vs us->(∀ v∈vs,Gp v=true)->∀ u∈us,∃ q:Key,jB q u=true
 | _,_,.nil,_,u,hu=>by cases hu
 | _,_,.cons h r,f,u,hu=>by
   rcases List.mem_cons.mp hu with e | e
   . rw [e]; exact Lk (f _ List.mem_cons_self) h
   . exact wJ r (fun v hv=>f v (List.mem_cons_of_mem _ hv)) u e
theorem oX {X:Cx}:dM X (.builtin "sorted") (fun xs H Q=>∃ (p:Addr) (ts:List (Addr × (α × β))),xs=[.ref p]/\cT X.K H p ((ts.map (·.1)).map V.ref)/\(∀ t∈ts,∃ rest:List V,H t.1=some (.tup (K1.vv t.2.1 :: K2.vv t.2.2 :: rest))/\∀ v∈rest,Gp v=true)/\(ts.map (·.2)).Nodup/\ts.length<64 /\
   ∀ (l:Addr) (ts':List (Addr × (α × β))),H l=none->ts'.Perm ts->ts'.Pairwise (fun a b=>Jk K1 K2 a.2 b.2=true)->Q (.ref l) (upd H l (.lst ((ts'.map (·.1)).map V.ref)))):=by
 intro pins s σ H xs us Q I r h
 obtain ⟨p,ts,rfl,hp,hT,hn,h64,q⟩:=h
 obtain ⟨u,rfl,ru⟩:=vals1 r
 cases ru
 obtain ⟨its,rv,pl,hz⟩:=I.list hp
 have ei:=Jl rv
 subst ei
 have mC:sizeLine=16777216:=sizeLine_eq
 obtain ⟨o,n,g1,g2,_,g3⟩:=pl
 have at':∀ i,i<ts.length->((ts.map (·.1)).map Value.ref).getD i Value.none=.ref (ts.getD i (0,default,default)).1/\(ts.map (·.2)).getD i (default,default)=(ts.getD i (0,default,default)).2:=fun i hi=>by
   simp [List.getD,List.getElem?_map,List.getElem?_eq_getElem hi]
 refine wI (K1:=K1) (K2:=K2) (ks:=ts.map (·.2)) (T:=fun vs=>vs=(ts.map (·.1)).map Value.ref) hn (by rw [List.length_map]; exact h64) (fun R hR=>wpAny_collect_seq p (.inl rfl) g1 g2 g3 (fun h' kk=>?_) (by rw [List.size_toArray,List.length_map,List.length_map]; omega)) fun h1 h' tk vs l n k1 k2 hT' hvl ho l1 l2 l3=>?_
 . refine hR h' s.toks ((ts.map (·.1)).map Value.ref) kk (g8.of (by simp) fun i hi=>?_) rfl
   rw [List.length_map] at hi
   rw [(at' i hi).1,(at' i hi).2]
   have hm:ts.getD i (0,default,default)∈ts:=by
     simp only [List.getD,List.getElem?_eq_getElem hi,Option.getD_some]
     exact List.getElem_mem hi
   obtain ⟨rest,et,pr⟩:=hT _ hm
   obtain ⟨_,its,rv,ob,e1,e2,⟨m,e3⟩,_⟩:=(show bQ X.prog X.w H s.heap _ (.tup _) from I.hok _ _ et)
   have g:=kk _ _ e1
   cases rv with
   | cons r1 rv =>
     cases rv with
     | cons r2 rv=>exact ⟨_,ob,m,_,_,_,rfl,Nat.ne_of_lt (Heap.lt_size g),g,e2,e3,K1.rel _ _ r1,K2.rel _ _ r2,wJ rv pr⟩
 . have I1:Inv X pins σ H { s with heap:=h1,toks:=tk }:=I.kept k1
   rw [List.length_map] at l1
   have lb:∀ i∈l,i<ts.length:=fun i hi=>List.mem_range.mp (l1.mem_iff.mp hi)
   have eo:(l.map fun i=>vs.getD i Value.none)=((l.map fun i=>ts.getD i (0,default,default)).map (·.1)).map Value.ref:=by
     have z:(l.map fun i=>vs.getD i Value.none)=l.map fun i=>Value.ref (ts.getD i (0,default,default)).1:=List.map_congr_left fun i hi=>by rw [hT']; exact (at' i (lb i hi)).1
     rw [z,List.map_map,List.map_map]
     rfl
   rw [eo] at ho
   have ek:(l.map fun i=>(ts.map (·.2)).getD i (default,default))=(l.map fun i=>ts.getD i (0,default,default)).map (·.2):=by
     rw [List.map_map]
     exact List.map_congr_left fun i hi=>(at' i (lb i hi)).2
   have pm:(l.map fun i=>ts.getD i (0,default,default)).Perm ts:=by
     have z:=List.Perm.map (fun i=>ts.getD i (0,default,default)) l1
     have all:((List.range ts.length).map fun i=>ts.getD i (0,default,default))=ts:=by
       apply List.ext_getElem
       . simp
       . intro i h1 h2
         simp [List.getD,h2]
     rw [all] at z
     exact z
   rw [ek,List.pairwise_map] at l3
   have lt':=pm.length_eq
   refine ⟨.ref h1.objs.size,_,I1.laid (t':=tk) (o:=.lst (((l.map fun i=>ts.getD i (0,default,default)).map (·.1)).map V.ref)) k2 (Nat.le_refl _) ⟨by rw [List.length_map,List.length_map]; omega,((l.map fun i=>ts.getD i (0,default,default)).map (·.1)).map Value.ref,n,?_,ho⟩,rfl,q _ _ (I1.hok.fresh (Nat.le_refl _)) pm l3⟩
   generalize ((l.map fun i=>ts.getD i (0,default,default)).map (·.1))=ys
   induction ys with
   | nil=>exact .nil
   | cons y ys ih=>exact .cons rfl ih
end
end L2
namespace L2
open PySem PySem.Spec PyProof.Rows PySem.W
section
variable {X:Cx}
theorem qH (hc:X.calm=true):dM X (.builtin "sorted") (fun xs H Q=>∃ (p:Addr) (kvs:List (List Key × V)) (ks:List (Str × Str)),xs=[.ref p]/\H p=some (.dT kvs)/\kvs.map (·.1)=ks.map kP/\ks.length<64 /\
   ∀ (l:Addr) (as:List Addr) (ks':List (Str × Str)),H l=none->ks'.Perm ks->ks'.Pairwise (fun x y=>CJ x y=true)->as.length=ks'.length->(∀ (i:Nat) (a:Addr) (k:Str × Str),as[i]?=some a->ks'[i]?=some k->H a=some (.tup ((kP k).map kV)))->Q (.ref l) (upd H l (.lst (as.map V.ref)))):=by
 intro pins s σ H xs us Q I r h
 obtain ⟨p,kvs,ks,rfl,hp,hk,h6,q⟩:=h
 obtain ⟨u,rfl,ru⟩:=vals1 r
 cases ru
 obtain ⟨z,d,xs,rel,o,es,ep,g1,g2,g3,g4,g5⟩:=(show bQ X.prog X.w H s.heap p (.dT kvs) from I.hok p _ hp)
 have hkx:xs.map (·.1)=ks.map kP:=by
   rw [<- hk]
   exact (mR rel).symm
 have hn:ks.Nodup:=by
   rw [hkx] at g5
   rw [List.nodup_iff_pairwise_ne] at g5 ⊢
   rw [List.pairwise_map] at g5
   exact g5.imp fun {a b} h e=>h (by rw [e])
 have hxl:xs.length=ks.length:=by have:=congrArg List.length hkx; simpa using this
 have Yg:es.size=ks.length:=by rw [<- Array.length_toList,g4,List.length_map,hxl]
 have mC:sizeLine=16777216:=sizeLine_eq
 have fact:∀ i,i<ks.length->(es[i]?).map (·.key)=some (Value.ref (xs.map (·.2.1))[i]!)/\H (xs.map (·.2.1))[i]! = some (.tup ((kP (ks.getD i (default,default))).map kV)):=fun i hi=>by
   have ex:xs[i]?=some xs[i]:=List.getElem?_eq_getElem (by omega)
   obtain ⟨kv,Sv,e1,e2,_⟩:=fj rel ex
   have ea:(xs.map (·.2.1))[i]! = xs[i].2.1:=by
     rw [List.getElem!_eq_getElem?_getD,List.getElem?_map,ex]; rfl
   rw [ea]
   refine ⟨?_,?_⟩
   . rw [<- Array.getElem?_toList,g4,List.getElem?_map,ex]; rfl
   . rw [e1] at e2
     have e3:(xs.map (·.1))[i]?=some xs[i].1:=by rw [List.getElem?_map,ex]; rfl
     rw [hkx,List.getElem?_map,List.getElem?_eq_getElem hi] at e3
     have e4:kP ks[i]=xs[i].1:=Option.some.inj e3
     have e5:ks.getD i (default,default)=ks[i]:=by simp [List.getD,hi]
     rw [e5,e4]; exact e2
 refine wI (K1:=kdS) (K2:=kdS) (T:=fun vs=>∀ i,i<ks.length->vs.getD i Value.none=.ref (xs.map (·.2.1))[i]!) hn h6 (fun R hR=>PySem.W.kdu_collect (A:=X.A.in1) (Oo (es:=es) (ep:=ep) d) (by simpa using I.ok.hd hc) ⟨o,g1,g2,g3⟩ (by omega) fun h' tk acc kk hacc=>?_) fun h1 h' tk vs l n k1 k2 hT hvl ho l1 l2 l3=>?_
 . have al:acc.toList.length=ks.length:=by rw [Array.length_toList]; exact hacc.1.trans Yg
   have at':∀ i,i<ks.length->acc.toList.getD i Value.none=.ref (xs.map (·.2.1))[i]!:=fun i hi=>by
     have e1:acc.toList[i]?=some acc.toList[i]:=List.getElem?_eq_getElem (by omega)
     obtain ⟨e,ee,ev⟩:=hacc.2 i acc.toList[i] (by rw [<- Array.getElem?_toList]; exact e1)
     have f:=(fact i hi).1
     rw [ee] at f
     have f':e.key=Value.ref (xs.map (·.2.1))[i]!:=Option.some.inj f
     simp only [List.getD,e1,Option.getD_some]
     rw [ev,f']
   refine hR h' tk acc.toList kk (g8.of al fun i hi=>?_) at'
   rw [at' i hi]
   obtain ⟨_,its,rv,ob,e1,e2,⟨m,e3⟩,_⟩:=(show bQ X.prog X.w H s.heap _ (.tup ((kP (ks.getD i (default,default))).map kV)) from I.hok _ _ (fact i hi).2)
   have g:=kk _ _ e1
   obtain ⟨v1,v2,rfl,r1,r2⟩:=vals2 (show Vals [V.str _,V.str _] its from rv)
   obtain ⟨t1,rfl⟩:=r1
   obtain ⟨t2,rfl⟩:=r2
   exact ⟨_,ob,m,_,_,[],rfl,Nat.ne_of_lt (Heap.lt_size g),g,e2,e3,⟨t1,rfl⟩,⟨t2,rfl⟩,fun u hu=>by cases hu⟩
 . have I1:Inv X pins σ H { s with heap:=h1,toks:=tk }:=I.kept k1
   have l1:∀ i∈l,i<ks.length:=fun i hi=>List.mem_range.mp (l1.mem_iff.mp hi)
   have l3:(l.map fun i=>ks.getD i (default,default)).Pairwise (fun x y=>CJ x y=true):=l3
   have ll:l.length=ks.length:=by have:=l2.length_eq; simpa using this
   have eo:(l.map fun i=>vs.getD i Value.none)=(l.map fun i=>(xs.map (·.2.1))[i]!).map Value.ref:=by
     rw [List.map_map]
     exact List.map_congr_left fun i hi=>hT i (l1 i hi)
   refine ⟨.ref h1.objs.size,_,I1.laid (t':=tk) (o:=.lst ((l.map fun i=>(xs.map (·.2.1))[i]!).map V.ref)) k2 (Nat.le_refl _) ⟨by rw [List.length_map,List.length_map]; omega,(l.map fun i=>(xs.map (·.2.1))[i]!).map Value.ref,n,?_,by rw [<- eo]; exact ho⟩,rfl,
     q _ _ _ (I1.hok.fresh (Nat.le_refl _)) l2 l3 (by simp) fun j a k ea ek=>?_⟩
   . generalize (l.map fun i=>(xs.map (·.2.1))[i]!)=ys
     induction ys with
     | nil=>exact .nil
     | cons y ys ih=>exact .cons rfl ih
   . rw [List.getElem?_map] at ea ek
     cases ej:l[j]? with
     | none=>rw [ej] at ea; cases ea
     | some i =>
       rw [ej] at ea ek
       cases (show some _=some a from ea)
       cases (show some _=some k from ek)
       exact (fact i (l1 i (List.mem_of_getElem? ej))).2
end
end L2
namespace jQ
open PySem L2 fW
section
variable {H1:Hp} {D:Addr} {σ0:St} {g:BI->TG} {te:BI->TE} {tt:BI->TT} {End:Hp->Prop} {α β:Type}
theorem jX {keep:α->Bool} {bs:List α} {i:Nat} {c:α} (h:bs[i]?=some c):(bs.take (i+1)).filter keep=(bs.take i).filter keep++if keep c=true then [c] else []:=by
 rw [List.take_add_one,h,List.filter_append]
 cases z:keep c <;> simp [z]
theorem fU {K:PySem.W.Frag} {R:V->α->Prop} {R':Hp->V->β->Prop} {F:α->β->Prop} {keep:α->Bool} {a:Addr} {xs:List V} {bs:List α} (mono:∀ {H H':Hp} {v b},Same H H'->R' H v b->R' H' v b) (tQ:∀ {H:Hp} {o:HO} {v b},(∃ zs,H D=some (.lst zs))->R' H v b->R' (upd H D o) v b)
   (hD:H1 D=none) (hT:H1 a=some (.lst xs)) (few:xs.length<=1000) (pr:Paired R xs bs)
   (turn:∀ (i:Nat) (x:V) (c:α) (H':Hp),bs[i]?=some c->R x c->Same H1 H'->∀ b (N:Hp->Prop) (Q:VK),(keep c=false->∀ gK,Same H' gK->N gK)->(keep c=true->∀ v gK y,Same H' gK->R' gK v y->F c y->Q v gK)->g b x σ0 H' fun σ2 H2=>tt b σ2 H2 fun cc H3=>if cc=true then te b σ2 H3 Q else N H3)
   (fin:∀ vs ys H',Same H1 H'->H' D=some (.lst vs)->Paired (R' H') vs ys->Paired F (bs.filter keep) ys->End H') :
   ∃ W:Nat->Nat->Hp->Prop,(∃ m,W 0 m (upd H1 D (.lst [])))/\∀ b,jE (Xh K a) (g b) (tt b) (jP D (te b)) σ0 End W :=
 yO (xs:=xs) (fun i H'=>∃ zs ys,dU H1 H' D zs/\zs.length<=i/\Paired (R' H') zs ys/\Paired F ((bs.take i).filter keep) ys) ⟨[],[],dU.start hD,Nat.zero_le _,.nil,.nil⟩ (fun i H' _ hz=>by obtain ⟨_,_,G,_⟩:=hz; exact cT.of (G.same _ _ hT)) (fun H' hz=>by
   obtain ⟨zs,ys,G,_,pz,pf⟩:=hz
   rw [pr.length,List.take_length] at pf
   exact fin zs ys H' G.same G.at' pz pf) (fun i x H' hx hi hz b=>by
   have mC:sizeLine=16777216:=sizeLine_eq
   obtain ⟨zs,ys,G,lz,pz,pf⟩:=hz
   obtain ⟨c,hc,rc⟩:=bw pr hx
   refine turn i x c H' hc rc G.same b _ _ (fun k gK s=>nx hi ⟨zs,ys,G.more s,by omega,aA (fun _ _ z=>mono s z) pz,by rw [jX hc,k,if_neg Bool.false_ne_true,List.append_nil]; exact pf⟩) (fun k v gK y s r f=>?_)
   refine ⟨zs,(G.more s).at',by omega,nx hi ⟨zs++[v],ys++[y],(G.more s).put hD v,by rw [List.length_append]; simp; omega,?_,by rw [jX hc,k,if_pos rfl]; exact aY pf (.cons f .nil)⟩⟩
   exact aY (aA (fun _ _ z=>tQ ⟨_,(G.more s).at'⟩ (mono s z)) pz) (.cons (tQ ⟨_,(G.more s).at'⟩ r) .nil))
end
theorem dR {H:Hp} {D:Addr} {o:HO} (h:∃ zs,H D=some (.lst zs)):bV H (upd H D o):=fun b xs e=>by
 have n:b≠D:=fun z=>by obtain ⟨zs,y⟩:=h; rw [z,y] at e; cases e
 rw [aB n]; exact e
abbrev bH:=Str × Place
def Vk (H:Hp) (v:V) (p:Place):Prop:=∃ b,v=.ref b/\H b=some (.tup [.str p.1,.int p.2.1,.int p.2.2])
theorem Vk.ts {H H':Hp} {v:V} {p:Place} (h:Vk H v p) (s:bV H H'):Vk H' v p:=let ⟨b,e,g⟩:=h; ⟨b,e,s _ _ g⟩
def j7 (H:Hp) (kv:Key × V) (p:bH):Prop:=kv.1=.inr p.1/\Vk H kv.2 p.2
theorem j7.ts {H H':Hp} {kv:Key × V} {p:bH} (h:j7 H kv p) (s:bV H H'):j7 H' kv p:=⟨h.1,h.2.ts s⟩
def jY (H:Hp) (a:Addr) (kt:List bH):Prop:=∃ kvs,H a=some (.dK kvs)/\Paired (j7 H) kvs kt
def ktM (kt:List bH) (n:Str):Option Place:=(kt.find? fun p=>decide (p.1=n)).map (·.2)
theorem qI {H:Hp} {n:Str}:∀ {kvs:List (Key × V)} {kt:List bH},Paired (j7 H) kvs kt->(ktM kt n=none->cj kvs (.inr n)=none)/\∀ p,ktM kt n=some p->∃ b,cj kvs (.inr n)=some (.ref b)/\H b=some (.tup [.str p.1,.int p.2.1,.int p.2.2])
 | _,_,.nil=>⟨fun _=>rfl,fun p e=>(by cases e)⟩
 | kv :: _,r :: _,.cons h t=>by
   obtain ⟨h1,b,h2,h3⟩:=h
   by_cases z:r.1=n
   . have e1:∀ l,ktM (r :: l) n=some r.2:=fun l=>by simp [ktM,z]
     rw [e1]
     refine ⟨fun e=>(by cases e),fun p e=>?_⟩
     cases e
     exact ⟨b,by rw [cL (by rw [h1,z]),h2],h3⟩
   . have e1:∀ l,ktM (r :: l) n=ktM l n:=fun l=>by simp [ktM,z]
     rw [e1,cD (by rw [h1]; exact fun y=>z (Sum.inr.inj y))]
     exact qI t
theorem jY.at {H:Hp} {a:Addr} {kt:List bH} (h:jY H a kt):Bl H a (ktM kt):=let ⟨kvs,e,p⟩:=h; ⟨kvs,e,fun _=>qI p⟩
theorem Jm {kt:List bH} {n:Str}:(ktM kt n).isSome=true↔n∈kt.map (·.1):=by
 unfold ktM
 rw [Option.isSome_map,List.find?_isSome]
 simp [eq_comm]
def own (h:Str) (n:Int) (p:bH):Bool:=decide (p.2.1=h) && decide (p.2.2.1=n)
def wK (p:bH):Int × Str:=(p.2.2.2,p.1)
abbrev ltR (a b:Int × Str):Bool:=Jk YZ kdS a b
def Jo (r:Row):Int × Str:=(r.2,r.1)
def tU (h:Str) (kt:List bH) (n:Int) (run:List Row):Prop:=(run.map Jo).Perm ((kt.filter (own h n)).map wK)/\(run.map Jo).Pairwise (fun a b=>ltR a b=true)
def rQ (h:Str) (kt:List bH) (runs:List (List Row)):Prop:=∃ ns:List Int,ns.Pairwise (·<·)/\(∀ n,n∈ns↔∃ p∈kt,own h n p=true)/\Paired (tU h kt) ns runs
theorem Ln {α:Type} {lt:α->α->Bool} (S:Strict lt) {l m:List α} (p:l.Perm m) (hl:l.Pairwise (fun a b=>lt a b=true)) (hm:m.Pairwise (fun a b=>lt a b=true)):l=m :=
 p.eq_of_pairwise (fun a b _ _ h1 h2=>by have h3:=S.trans _ _ _ h1 h2; rw [S.Im] at h3; cases h3) hl hm
theorem Vl {a b:List Row} (h:a.map Jo=b.map Jo):a=b:=by
 have e:∀ r:Row,((Jo r).2,(Jo r).1)=r:=fun r=>rfl
 have z:∀ l:List Row,(l.map Jo).map (fun x=>((x.2,x.1):Row))=l:=fun l=>by rw [List.map_map]; exact (List.map_congr_left fun r _=>e r).trans (List.map_id l)
 rw [<- z a,h,z b]
theorem Gq {h:Str} {kt:List bH} {n:Int} {a b:List Row} (x:tU h kt n a) (y:tU h kt n b):a=b :=
 Vl (Ln (pI YZ kdS) (x.1.trans y.1.symm) x.2 y.2)
theorem QJ {l m:List Int} (hl:l.Pairwise (·<·)) (hm:m.Pairwise (·<·)) (h:∀ n,n∈l↔n∈m):l=m:=by
 have nl:l.Nodup:=hl.imp fun h=>by omega
 have nm:m.Nodup:=hm.imp fun h=>by omega
 exact ((List.perm_ext_iff_of_nodup nl nm).mpr h).eq_of_pairwise (fun a b _ _ h1 h2=>by omega) hl hm
theorem gG {α β:Type} {F:α->β->Prop} (u:∀ a b c,F a b->F a c->b=c):∀ {l:List α} {m m':List β},Paired F l m->Paired F l m'->m=m'
 | _,_,_,.nil,.nil=>rfl
 | _,_,_,.cons h r,.cons h' r'=>by rw [u _ _ _ h h',gG u r r']
theorem Dv {h:Str} {kt:List bH} {a b:List (List Row)} (x:rQ h kt a) (y:rQ h kt b):a=b:=by
 obtain ⟨ns,p1,m1,r1⟩:=x
 obtain ⟨ms,p2,m2,r2⟩:=y
 have e:=QJ p1 p2 fun n=>(m1 n).trans (m2 n).symm
 subst e
 exact gG (F:=tU h kt) (fun _ _ _ x y=>Gq x y) r1 r2
end jQ
namespace jQ
open PySem L2 fW
def LstAt (H:Hp) (l:Addr) (rs:List (Int × Str)):Prop:=∃ ts:List (Addr × (Int × Str)),H l=some (.lst ((ts.map (·.1)).map V.ref))/\(∀ t∈ts,H t.1=some (.tup [.int t.2.1,.str t.2.2]))/\ts.map (·.2)=rs
def RD (H0:Hp) (h:Str) (pre:List bH) (H:Hp) (R:Addr):Prop:=∃ es:List (Int × Addr),H R=some (.dK (es.map fun e=>(Sum.inl (some e.1),V.ref e.2)))/\(es.map (·.1)).Nodup/\(es.map (·.2)).Nodup/\(∀ e∈es,LstAt H e.2 ((pre.filter (own h e.1)).map wK))/\(∀ n,n∈es.map (·.1)↔∃ p∈pre,own h n p=true)/\es.length<=pre.length/\∀ e∈es,H0 e.2=none
def yq (es:List (Int × Addr)) (n:Int):Option Addr:=(es.find? fun e=>decide (e.1=n)).map (·.2)
theorem Dw {es:List (Int × Addr)} {n:Int} {l:Addr} (h:yq es n=some l):(n,l)∈es:=by
 unfold yq at h
 obtain ⟨e,he,rfl⟩:=Option.map_eq_some_iff.mp h
 have h1:=List.mem_of_find?_eq_some he
 have h2:e.1=n:=by have:=List.find?_some he; simpa using this
 rw [<- h2]
 exact h1
theorem zB {es:List (Int × Addr)} {n:Int} (h:yq es n=none):n ∉ es.map (·.1):=by
 unfold yq at h
 rw [Option.map_eq_none_iff,List.find?_eq_none] at h
 intro z
 obtain ⟨e,he,rfl⟩:=List.mem_map.mp z
 exact h e he (decide_eq_true rfl)
theorem uQ (es:List (Int × Addr)) (n:Int):cj (es.map fun e=>((Sum.inl (some e.1):Key),V.ref e.2)) (Sum.inl (some n))=(yq es n).map V.ref:=by
 induction es with
 | nil=>rfl
 | cons e es ih =>
   rw [List.map_cons]
   by_cases z:e.1=n
   . rw [cL (by rw [z])]
     simp [yq,z]
   . rw [cD (fun y=>z (Option.some.inj (Sum.inl.inj y))),ih]
     simp [yq,z]
theorem LstAt.same {H H':Hp} {l:Addr} {rs:List (Int × Str)} (h:LstAt H l rs) (s:Same H H'):LstAt H' l rs:=let ⟨ts,e,g,m⟩:=h; ⟨ts,s _ _ e,fun t ht=>s _ _ (g t ht),m⟩
theorem LstAt.but {H H':Hp} {l:Addr} {rs:List (Int × Str)} (h:LstAt H l rs) (e:H' l=H l) (s:bV H H'):LstAt H' l rs:=let ⟨ts,g,t,m⟩:=h; ⟨ts,e.trans g,fun x hx=>s _ _ (t x hx),m⟩
theorem RD.old {h:Str} {pre:List bH} {H0 H H':Hp} {R:Addr} {p:bH} {es:List (Int × Addr)} {l T:Addr} (hp:p.2.1=h) (eR:H R=some (.dK (es.map fun e=>(Sum.inl (some e.1),V.ref e.2)))) (n1:(es.map (·.1)).Nodup) (n2:(es.map (·.2)).Nodup) (ls:∀ e∈es,LstAt H e.2 ((pre.filter (own h e.1)).map wK)) (mem:∀ n,n∈es.map (·.1)↔∃ p∈pre,own h n p=true) (few:es.length<=pre.length) (nw:∀ e∈es,H0 e.2=none)
   (hl:(p.2.2.1,l)∈es) (sm:∀ b u,b≠l->H b=some u->H' b=some u) (nl:LstAt H' l (((pre.filter (own h p.2.2.1)).map wK)++[wK p])):RD H0 h (pre++[p]) H' R:=by
 have ll:∃ zs,H l=some (.lst zs):=by obtain ⟨ts,e,_⟩:=ls _ hl; exact ⟨_,e⟩
 have nR:R≠l:=fun z=>by obtain ⟨zs,e⟩:=ll; rw [<- z,eR] at e; cases e
 have own1:own h p.2.2.1 p=true:=by unfold own; rw [decide_eq_true hp,decide_eq_true rfl]; rfl
 refine ⟨es,sm _ _ nR eR,n1,n2,fun e he=>?_,fun n=>?_,by rw [List.length_append]; omega,nw⟩
 . rw [List.filter_append,List.map_append]
   by_cases z:e.1=p.2.2.1
   . have e2:e.2=l:=by
       obtain ⟨i,hi,ei⟩:=List.getElem_of_mem he
       obtain ⟨j,hj,ej⟩:=List.getElem_of_mem hl
       have a1:(es.map (·.1))[i]?=some e.1:=by rw [List.getElem?_map,List.getElem?_eq_getElem hi,ei]; rfl
       have a2:(es.map (·.1))[j]?=some e.1:=by rw [List.getElem?_map,List.getElem?_eq_getElem hj,ej,z]; rfl
       have ij:=(List.getElem?_inj (by rw [List.length_map]; exact hi) n1).mp (a1.trans a2.symm)
       subst ij
       rw [<- ei,ej]
     rw [e2,z]
     have f1:([p].filter (own h p.2.2.1)).map wK=[wK p]:=by rw [List.filter_cons_of_pos own1]; rfl
     rw [f1]
     exact nl
   . have o2:own h e.1 p=false:=by unfold own; rw [show decide (p.2.2.1=e.1)=false from decide_eq_false (fun y=>z y.symm),Bool.and_false]
     have f1:([p].filter (own h e.1)).map wK=[]:=by rw [List.filter_cons_of_neg (by rw [o2]; exact Bool.false_ne_true)]; rfl
     rw [f1,List.append_nil]
     have ne:e.2≠l:=fun y=>by
       obtain ⟨i,hi,ei⟩:=List.getElem_of_mem he
       obtain ⟨j,hj,ej⟩:=List.getElem_of_mem hl
       have a1:(es.map (·.2))[i]?=some e.2:=by rw [List.getElem?_map,List.getElem?_eq_getElem hi,ei]; rfl
       have a2:(es.map (·.2))[j]?=some e.2:=by rw [List.getElem?_map,List.getElem?_eq_getElem hj,ej,y]; rfl
       have ij:=(List.getElem?_inj (by rw [List.length_map]; exact hi) n2).mp (a1.trans a2.symm)
       subst ij
       rw [ei] at ej
       exact z (by rw [ej])
     obtain ⟨ts,g,t,m⟩:=ls e he
     exact ⟨ts,sm _ _ ne g,fun x hx=>sm _ _ (fun y=>by obtain ⟨zs,e'⟩:=ll; have:=t x hx; rw [y,e'] at this; cases this) (t x hx),m⟩
 . rw [mem n]
   constructor
   . rintro ⟨q,hq,oq⟩
     exact ⟨q,List.mem_append_left _ hq,oq⟩
   . rintro ⟨q,hq,oq⟩
     rcases List.mem_append.mp hq with hq | hq
     . exact ⟨q,hq,oq⟩
     . rw [List.mem_singleton] at hq
       subst hq
       have en:q.2.2.1=n:=of_decide_eq_true (Bool.and_eq_true_iff.mp oq).2
       rw [<- en]
       exact (mem _).mp (List.mem_map.mpr ⟨_,hl,rfl⟩)
theorem RD.new {h:Str} {pre:List bH} {H0 H H':Hp} {R:Addr} {p:bH} {es:List (Int × Addr)} {l:Addr} (hp:p.2.1=h) (n1:(es.map (·.1)).Nodup) (n2:(es.map (·.2)).Nodup) (ls:∀ e∈es,LstAt H' e.2 ((pre.filter (own h e.1)).map wK)) (mem:∀ n,n∈es.map (·.1)↔∃ p∈pre,own h n p=true) (few:es.length<=pre.length) (nw:∀ e∈es,H0 e.2=none) (nwl:H0 l=none)
   (hv:yq es p.2.2.1=none) (fl:H l=none) (old:∀ e∈es,∃ u,H e.2=some u) (eR:H' R=some (.dK ((es++[(p.2.2.1,l)]).map fun e=>(Sum.inl (some e.1),V.ref e.2)))) (nl:LstAt H' l [wK p]):RD H0 h (pre++[p]) H' R:=by
 have own1:own h p.2.2.1 p=true:=by unfold own; rw [decide_eq_true hp,decide_eq_true rfl]; rfl
 have nin:=zB hv
 refine ⟨es++[(p.2.2.1,l)],eR,?_,?_,fun e he=>?_,fun n=>?_,by rw [List.length_append,List.length_append]; simpa using few,fun e he=>(List.mem_append.mp he).elim (nw e) fun z=>by rw [List.mem_singleton.mp z]; exact nwl⟩
 . rw [List.map_append]
   exact List.nodup_append.mpr ⟨n1,by simp,fun a ha b hb=>by rw [List.map_singleton,List.mem_singleton] at hb; exact fun z=>nin (by rw [<- hb,<- z]; exact ha)⟩
 . rw [List.map_append]
   refine List.nodup_append.mpr ⟨n2,by simp,fun a ha b hb z=>?_⟩
   rw [List.map_singleton,List.mem_singleton] at hb
   obtain ⟨e,he,rfl⟩:=List.mem_map.mp ha
   obtain ⟨u,hu⟩:=old e he
   rw [z,hb,fl] at hu
   cases hu
 . rw [List.filter_append,List.map_append]
   rcases List.mem_append.mp he with he | he
   . have ne:e.1≠p.2.2.1:=fun z=>nin (by rw [<- z]; exact List.mem_map.mpr ⟨e,he,rfl⟩)
     have o2:own h e.1 p=false:=by unfold own; rw [show decide (p.2.2.1=e.1)=false from decide_eq_false (fun y=>ne y.symm),Bool.and_false]
     have f1:([p].filter (own h e.1)).map wK=[]:=by rw [List.filter_cons_of_neg (by rw [o2]; exact Bool.false_ne_true)]; rfl
     rw [f1,List.append_nil]
     exact ls e he
   . rw [List.mem_singleton] at he
     subst he
     have f0:pre.filter (own h p.2.2.1)=[]:=by
       rw [List.filter_eq_nil_iff]
       intro q hq oq
       exact nin ((mem _).mpr ⟨q,hq,oq⟩)
     have f1:([p].filter (own h p.2.2.1)).map wK=[wK p]:=by rw [List.filter_cons_of_pos own1]; rfl
     show LstAt H' l ((pre.filter (own h p.2.2.1)).map wK++_)
     rw [f0,f1]
     exact nl
 . rw [List.map_append,List.mem_append,mem n]
   constructor
   . rintro (⟨q,hq,oq⟩ | hq)
     . exact ⟨q,List.mem_append_left _ hq,oq⟩
     . rw [List.map_singleton,List.mem_singleton] at hq
       subst hq
       exact ⟨p,List.mem_append_right _ (List.mem_singleton.mpr rfl),own1⟩
   . rintro ⟨q,hq,oq⟩
     rcases List.mem_append.mp hq with hq | hq
     . exact .inl ⟨q,hq,oq⟩
     . rw [List.mem_singleton] at hq
       subst hq
       refine .inr ?_
       rw [List.map_singleton,List.mem_singleton]
       exact (of_decide_eq_true (Bool.and_eq_true_iff.mp oq).2).symm
theorem RD.skip {h:Str} {pre:List bH} {H0 H:Hp} {R:Addr} {p:bH} (hp:p.2.1≠h) (r:RD H0 h pre H R):RD H0 h (pre++[p]) H R:=by
 obtain ⟨es,eR,n1,n2,ls,mem,few,nw⟩:=r
 have o2:∀ n,own h n p=false:=fun n=>by unfold own; rw [decide_eq_false hp,Bool.false_and]
 refine ⟨es,eR,n1,n2,fun e he=>?_,fun n=>?_,by rw [List.length_append]; omega,nw⟩
 . rw [List.filter_append,List.filter_cons_of_neg (by rw [o2]; exact Bool.false_ne_true),List.filter_nil,List.append_nil]
   exact ls e he
 . rw [mem n]
   constructor
   . rintro ⟨q,hq,oq⟩
     exact ⟨q,List.mem_append_left _ hq,oq⟩
   . rintro ⟨q,hq,oq⟩
     rcases List.mem_append.mp hq with hq | hq
     . exact ⟨q,hq,oq⟩
     . rw [List.mem_singleton] at hq
       subst hq
       rw [o2] at oq
       cases oq
theorem Wz {H:Hp} {a:Addr} {kvs:List (Key × V)} (e:H a=some (.dK kvs)):∀ o u,H a≠some (.iQ o u):=fun o u z=>by rw [e] at z; cases z
theorem Y0 {H:Hp} {a:Addr} {kvs:List (List Key × V)} (e:H a=some (.dT kvs)):∀ o u,H a≠some (.iQ o u):=fun o u z=>by rw [e] at z; cases z
theorem zE {H H2 H':Hp} {a:Addr} {u:HO} (e:H a=some u) (oth:∀ b,b≠a->H2 b=H b) (s:∀ b o,b≠a->H2 b=some o->H' b=some o):Same H (upd H' a u):=fun b o hb=>by
 by_cases z:b=a
 . subst z
   rw [ao,<- e,hb]
 . rw [aB z]
   exact s b o z (by rw [oth b z]; exact hb)
def wL:Sp:=fun vs H Q _=>∃ (h:Str) (a:Addr) (kt:List bH),vs=[.str h,.ref a]/\jY H a kt/\kt.length<=60/\(kt.map (·.1)).Nodup/\∀ (x:V) (runs:List (List Row)) (H':Hp),q9 H' x runs->rQ h kt runs->Same H H'->Q x H'
section
variable {P:Program} {w:World} {K:PySem.W.Frag} {mg:Str->Option Value} {base:Heap} {t8 t6 tR tL:Tok}
theorem jt:bf ["house","rows","runs","name","owner","run","reading"] ["house","rows"] (aD jV):=⟨rfl,rfl,rfl,by decide +kernel,rfl,by decide +kernel,by decide +kernel⟩
theorem Lp {f:Addr} {fd:FuncData} (F:mK K "runs_of" "runs_of" jV f fd) (T:Txt mg t8 t6 tR tL):aO P w K mg base cg 1 f fd ["house","rows"] wL:=by
 refine F.ok jt (fun vs H Q E h=>?_) (fun cdv A outer s H vs Q E hr h=>?_)
 . obtain ⟨h,a,kt,rfl,_⟩:=h
   rfl
 . obtain ⟨h,a,kt,rfl,⟨kvs,ea,pk⟩,few,nd,q⟩:=h
   have mC:sizeLine=16777216:=sizeLine_eq
   have lk:=pk.length
   refine ⟨_,(au (aR (i:=2) jt.nd rfl (Or.inr rfl) jD) (au (fZ PassesOwn.never rfl (Qn (pV 1)) (jg rfl (aU (aL (i:=3) jt.nd rfl (Or.inl rfl)) (aU (jg rfl (aU (aL (i:=4) jt.nd rfl (Or.inl rfl)) (aU (aL (i:=5) jt.nd rfl (Or.inl rfl)) (aU (aL (i:=6) jt.nd rfl (Or.inl rfl)) fX)))) fX))) (aG (cC (qt Cg (pV 4) (pV 0) (bB _)) (aG (fM (qm PySem.F.plainAttrs_list PySem.F.slot_list_append PySem.F.type_list_append gB (Qy (pV 2) (pV 5) (d8 aq) ⟨rfl,rfl,rfl,rfl⟩) (aj (bK (aj (pV 6) (aj (pV 3) aq))) aq)))) aW))) (aG (Je (bh (bJ bC rfl T.tuple PyProof.Rows.boot_tuple (aj (cB (iH:=aD jV) (own:=["run"]) (cap:=["runs"]) (ix:=[2]) rfl rfl ⟨rfl,by decide +kernel,by decide +kernel,by decide +kernel,rfl,by decide +kernel⟩ (eG (aN (yd rfl) rfl T.sorted PyProof.Rows.boot_sorted (aj (pV 2) aq))) (fun b=>(aL (i:=0) (show (["run","runs"]:List Str).Nodup by decide +kernel) rfl (Or.inl rfl))) (fun b=>cN) (fun b=>(bJ bC rfl T.tuple PyProof.Rows.boot_tuple (aj (cB (iH:=(kE ({ kind:=.function,names:=[(Str.ofString ".0",.local),(Str.ofString "run",.local),(Str.ofString "tuple",.globalImplicit),(Str.ofString "sorted",.globalImplicit),(Str.ofString "runs",.free)],isGenerator:=false,isCoroutine:=false }:Scope) (aD jV))) (own:=["reading","name"]) (cap:=[]) (ix:=[]) rfl rfl ⟨rfl,by decide +kernel,by decide +kernel,by decide +kernel,rfl,by decide +kernel⟩ (eG (aN (oX (K1:=YZ) (K2:=kdS)) rfl T.sorted PyProof.Rows.boot_sorted (aj (fO (cU hr) (pV 1) (pV 0) (fun _ _=>rfl)) aq))) (fun b=>(jg rfl (aU (aL (i:=0) (show (["reading","name"]:List Str).Nodup by decide +kernel) rfl (Or.inl rfl)) (aU (aL (i:=1) (show (["reading","name"]:List Str).Nodup by decide +kernel) rfl (Or.inl rfl)) fX)))) (fun b=>cN) (fun b=>(bK (aj (pV 1) (aj (pV 0) aq))))) aq)))) aq))))))),?_⟩
   refine fun R fR=>?_
   have s1:Same H (upd H R (.dK [])):=(Same.refl H).upd fR
   have nRa:R≠a:=fun z=>by rw [z,ea] at fR; cases fR
   refine ⟨a,kvs,rfl,.inl (s1 _ _ ea),fun o H2 e2 sf oth=>?_⟩
   refine K9 (fun i σ H'=>∃ (o3 o4 o5 o6:Option V),σ=[some (.str h),some (.ref a),some (.ref R),o3,o4,o5,o6]/\RD H h (kt.take i) H' R/\H' a=some (.iQ o (.dK kvs))/\∀ b u,b≠a->H b=some u->H' b=some u) ⟨none,none,none,none,rfl,?_,e2,?_⟩ (fun i σ H' _ hz=>by obtain ⟨_,_,_,_,_,_,e,_⟩:=hz; exact e) (fun i k x T σ H3 hx hz fT=>?_) (fun σ H3 hz=>?_)
   . refine ⟨[],by rw [oth R nRa]; exact ao,.nil,.nil,fun e he=>(by cases he),fun n=>?_,Nat.zero_le _,fun e he=>(by cases he)⟩
     rw [List.take_zero]
     simp
   . intro b u nb e
     rw [oth b nb]
     exact s1 _ _ e
   . obtain ⟨o3,o4,o5,o6,rfl,⟨es,eR,n1,n2,ls,mem,Vm,nw⟩,WD,sm⟩:=hz
     obtain ⟨p,hp,hk1,b,hx2,eb⟩:=bw pk hx
     obtain rfl:k=.inr p.1:=hk1
     obtain rfl:x=.ref b:=hx2
     have li:i<kt.length:=(List.getElem?_eq_some_iff.mp hp).1
     have lt0:(kt.take i).length=i:=by rw [List.length_take]; omega
     have tk:kt.take (i+1)=kt.take i++[p]:=by rw [List.take_add_one,hp]; rfl
     have nba:b≠a:=fun z=>by rw [z,ea] at eb; cases eb
     have sT:Same H3 (upd H3 T (.tup [kV (.inr p.1),.ref b])):=(Same.refl H3).upd fT
     have eT:upd H3 T (.tup [kV (.inr p.1),.ref b]) T=some (.tup [.str p.1,.ref b]):=ao
     generalize Dy:upd H3 T (.tup [kV (.inr p.1),.ref b])=H4 at sT eT ⊢
     clear Dy
     have eb3:=sT _ _ (sm b _ nba eb)
     refine ⟨T,_,rfl,bW.of eT,rfl,_,_,rfl,_,_,rfl,⟨b,_,rfl,bW.of eb3,rfl,_,_,rfl,_,_,rfl,_,_,rfl,rfl,⟨rfl,?_⟩⟩⟩
     refine ⟨rfl,?_⟩
     have ag1:∀ e∈es,∃ u,H3 e.2=some u:=fun e he=>by obtain ⟨ts,g,_⟩:=ls e he; exact ⟨_,g⟩
     refine fP (fun z=>?_) (fun z=>?_)
     . have ph:p.2.1=h:=by simpa using z
       have eRT:=sT _ _ eR
       refine ⟨R,rfl,.inl ⟨_,.inl eRT⟩,Nat.zero_le _,fun L fL=>?_⟩
       have sL:Same H4 (upd H4 L (.lst [])):=(Same.refl _).upd fL
       have eL:upd H4 L (.lst []) L=some (.lst []):=ao
       generalize Gs:upd H4 L (.lst [])=H5 at sL eL ⊢
       clear Gs
       have S3L:=sT.trans sL
       have Y4:H3 L=none:=sT.free fL
       have Z7:L≠R:=fun z=>by rw [z,eRT] at fL; cases fL
       refine ⟨_,Sum.inl (some p.2.2.1),sL _ _ eRT,rfl,by rw [List.length_map]; omega,fun v hv=>?_,fun hn=>?_⟩
       . rw [uQ] at hv
         obtain ⟨l,hl,rfl⟩:=Option.map_eq_some_iff.mp hv
         have ml:=Dw hl
         obtain ⟨ts,el,ht,em⟩:=ls _ ml
         have elL:=S3L _ _ el
         have lts:ts.length<=60:=by
           have z1:=congrArg List.length em
           rw [List.length_map,List.length_map] at z1
           have z2:=List.length_filter_le (own h p.2.2.1) (kt.take i)
           rw [lt0] at z2
           show ts.length<=60
           have z3:ts.length=(List.filter (own h p.2.2.1) (List.take i kt)).length:=z1
           omega
         refine ⟨.inl ⟨rfl,_,cT.of elL⟩,by show 2<=sizeLine; omega,fun T0 Y5=>?_⟩
         have s0:Same H5 (upd H5 T0 (.tup [.int p.2.2.2,.str p.1])):=(Same.refl _).upd Y5
         have e0:upd H5 T0 (.tup [.int p.2.2.2,.str p.1]) T0=some (.tup [.int p.2.2.2,.str p.1]):=ao
         generalize Vn:upd H5 T0 (.tup [.int p.2.2.2,.str p.1])=H6 at s0 e0 ⊢
         clear Vn
         have SA:=S3L.trans s0
         have el0:=SA _ _ el
         refine ⟨l,_,.ref T0,rfl,rfl,el0,by rw [List.length_map,List.length_map]; omega,?_⟩
         have smL:∀ b u,b≠l->H3 b=some u->upd H6 l (.lst ((ts.map (·.1)).map V.ref++[.ref T0])) b=some u:=fun b u n e=>by rw [aB n]; exact SA _ _ e
         have nla:a≠l:=fun z=>by rw [<- z,WD] at el; cases el
         have nT0:T0≠l:=fun z=>by rw [z,elL] at Y5; cases Y5
         have l0:H l=none:=nw _ ml
         refine ⟨_,_,_,_,rfl,?_,smL _ _ nla WD,fun b u n e=>smL _ _ (fun z=>?_) (sm b u n e)⟩
         . rw [tk]
           refine RD.old (T:=T0) ph eR n1 n2 ls mem Vm nw ml smL ⟨ts++[(T0,wK p)],?_,fun t ht'=>?_,by rw [List.map_append,em]; rfl⟩
           . rw [ao,List.map_append,List.map_append]; rfl
           . rcases List.mem_append.mp ht' with ht' | ht'
             . refine smL _ _ (fun z=>?_) (ht t ht')
               have:=ht t ht'
               rw [z,el] at this
               cases this
             . rw [List.mem_singleton] at ht'
               subst ht'
               rw [aB nT0]
               exact e0
         . rw [z,l0] at e
           cases e
       . rw [uQ,Option.map_eq_none_iff] at hn
         have eLR:upd H5 R (.dK (putK (es.map fun e=>((Sum.inl (some e.1):Key),V.ref e.2)) (Sum.inl (some p.2.2.1)) (.ref L))) L=some (.lst []):=by rw [aB Z7]; exact eL
         have eRR:upd H5 R (.dK (putK (es.map fun e=>((Sum.inl (some e.1):Key),V.ref e.2)) (Sum.inl (some p.2.2.1)) (.ref L))) R=some (.dK ((es++[(p.2.2.1,L)]).map fun e=>((Sum.inl (some e.1):Key),V.ref e.2))):=by
           rw [ao,List.map_append]
           unfold putK
           rw [if_neg]
           . rfl
           . rw [iU,uQ,hn]; exact Bool.false_ne_true
         have sR:∀ b u,b≠R->H5 b=some u->upd H5 R (.dK (putK (es.map fun e=>((Sum.inl (some e.1):Key),V.ref e.2)) (Sum.inl (some p.2.2.1)) (.ref L))) b=some u:=fun b u n e=>by rw [aB n]; exact e
         generalize Vn:upd H5 R (.dK (putK (es.map fun e=>((Sum.inl (some e.1):Key),V.ref e.2)) (Sum.inl (some p.2.2.1)) (.ref L)))=H6 at eLR eRR sR ⊢
         clear Vn
         refine ⟨.inl ⟨rfl,_,cT.of eLR⟩,by show 2<=sizeLine; omega,fun T0 Y5=>?_⟩
         have s0:Same H6 (upd H6 T0 (.tup [.int p.2.2.2,.str p.1])):=(Same.refl _).upd Y5
         have e0:upd H6 T0 (.tup [.int p.2.2.2,.str p.1]) T0=some (.tup [.int p.2.2.2,.str p.1]):=ao
         generalize Y6:upd H6 T0 (.tup [.int p.2.2.2,.str p.1])=H7 at s0 e0 ⊢
         clear Y6
         refine ⟨L,_,.ref T0,rfl,rfl,s0 _ _ eLR,by show 0<sizeLine; omega,?_⟩
         have nT0:T0≠L:=fun z=>by rw [z,eLR] at Y5; cases Y5
         have nRL:R≠L:=Ne.symm Z7
         have smA:∀ b u,b≠R->b≠L->H3 b=some u->upd H7 L (.lst ([]++[.ref T0])) b=some u:=fun b u n1 n2 e=>by rw [aB n2]; exact s0 _ _ (sR _ _ n1 (S3L _ _ e))
         have naR:a≠R:=Ne.symm nRa
         have naL:a≠L:=fun z=>by rw [<- z,WD] at Y4; cases Y4
         have l0:H L=none:=by
           cases y:H L with
           | none=>rfl
           | some u=>rw [sm L u (Ne.symm naL) y] at Y4; cases Y4
         refine ⟨_,_,_,_,rfl,?_,smA _ _ naR naL WD,fun b u n e=>smA _ _ (fun z=>?_) (fun z=>?_) (sm b u n e)⟩
         . rw [tk]
           refine RD.new (H:=H3) ph n1 n2 (fun e he=>?_) mem Vm nw l0 hn Y4 ag1 (by rw [aB nRL]; exact s0 _ _ eRR) ⟨[(T0,wK p)],ao,fun t ht'=>?_,rfl⟩
           . obtain ⟨ts,g,t,m⟩:=ls e he
             refine ⟨ts,smA _ _ (fun z=>by rw [z,eR] at g; cases g) (fun z=>by rw [z,Y4] at g; cases g) g,fun x hx=>smA _ _ (fun z=>?_) (fun z=>?_) (t x hx),m⟩
             . have:=t x hx; rw [z,eR] at this; cases this
             . have:=t x hx; rw [z,Y4] at this; cases this
           . rw [List.mem_singleton] at ht'
             subst ht'
             rw [aB nT0]
             exact e0
         . rw [z,fR] at e; cases e
         . rw [z,l0] at e; cases e
     . have ph:p.2.1≠h:=fun y=>z (by rw [y]; simp)
       refine ⟨_,_,_,_,rfl,?_,sT _ _ WD,fun b u n e=>sT _ _ (sm b u n e)⟩
       rw [tk]
       refine RD.skip ph ⟨es,sT _ _ eR,n1,n2,fun e he=>(ls e he).same sT,mem,Vm,nw⟩
   . obtain ⟨o3,o4,o5,o6,rfl,rd,WD,sm⟩:=hz
     rw [lk,List.take_length] at rd
     obtain ⟨es,eR3,n1,n2,ls,mem,Vm,nw⟩:=rd
     refine ⟨_,⟨a,o,.dK kvs,WD,True.intro,Wz ea,rfl⟩,?_⟩
     have sH:Same H (upd H3 a (.dK kvs)):=fun b u e=>by
       by_cases z:b=a
       . subst z; rw [ao,<- ea,e]
       . rw [aB z]; exact sm b u z e
     have eR:upd H3 a (.dK kvs) R=some (.dK (es.map fun e=>(Sum.inl (some e.1),V.ref e.2))):=by rw [aB nRa]; exact eR3
     have lsA:∀ e∈es,LstAt (upd H3 a (.dK kvs)) e.2 ((kt.filter (own h e.1)).map wK):=fun e he=>by
       refine (ls e he).but (aB fun z=>?_) fun b xs eb=>?_
       . have:=nw e he; rw [z,ea] at this; cases this
       . rw [aB fun z=>by rw [z,WD] at eb; cases eb]; exact eb
     generalize Dy:upd H3 a (.dK kvs)=H4 at sH eR lsA ⊢
     clear Dy
     refine ⟨R,_,es.map (·.1),rfl,eR,by rw [List.map_map,List.map_map]; rfl,by rw [List.length_map]; omega,fun l ns' fl pm pw=>?_⟩
     have s5:Same H4 (upd H4 l (.lst (ns'.map V.int))):=(Same.refl _).upd fl
     have e5:upd H4 l (.lst (ns'.map V.int)) l=some (.lst (ns'.map V.int)):=ao
     generalize Gs:upd H4 l (.lst (ns'.map V.int))=H5 at s5 e5 ⊢
     clear Gs
     have nd':ns'.Nodup:=pm.nodup_iff.mpr n1
     have lt':ns'.Pairwise (·<·):=by
       have z:=List.pairwise_and_iff.mpr ⟨pw,nd'⟩
       exact z.imp fun {a b} h=>by have:=h.1; have:=h.2; omega
     have ln':ns'.length<=60:=by rw [pm.length_eq,List.length_map]; omega
     have pR:Paired (fun (x:V) (n:Int)=>x=V.int n) (ns'.map V.int) ns':=by
       have key:∀ l:List Int,Paired (fun (x:V) (n:Int)=>x=V.int n) (l.map V.int) l:=fun l=>by
         induction l with
         | nil=>exact .nil
         | cons x l ih=>exact .cons rfl ih
       exact key ns'
     refine ⟨l,rfl,⟨_,cT.of e5⟩,fun D1 Y7=>fU (R':=mU) (F:=tU h kt) (keep:=fun _=>true) (fun s r=>r.ts s.tups) (fun e r=>r.ts (dR e)) Y7 e5 (by rw [List.length_map]; omega) pR (fun i x n H6 hn rx s6 b N Q1 _ q1=>?_) (fun vs runs H6 s6 Vo pv pf=>?_)⟩
     . subst rx
       have q2:=q1 rfl
       have ml:n∈es.map (·.1):=pm.mem_iff.mp (List.mem_of_getElem? hn)
       obtain ⟨l2,hl2⟩:∃ l2,yq es n=some l2:=by
         cases y:yq es n with
         | none=>exact absurd ml (zB y)
         | some l2=>exact ⟨l2,rfl⟩
       have ag5:=Dw hl2
       obtain ⟨ts,el,ht,em⟩:=(lsA _ ag5).same (s5.trans s6)
       have eR6:=(s5.trans s6) _ _ eR
       have dg:eU H6 R (.int n) (some (.ref l2)):=by
         have z:=eU.k (k:=Sum.inl (some n)) eR6
         rw [uQ,hl2] at z
         exact z
       refine ⟨R,.ref l2,rfl,dg,?_⟩
       have lts:ts.length<=60:=by
         have z1:(ts.map (·.2)).length=((kt.filter (own h n)).map wK).length:=congrArg List.length em
         rw [List.length_map,List.length_map] at z1
         have z2:=List.length_filter_le (own h n) kt
         omega
       have ndt:(ts.map (·.2)).Nodup:=by
         rw [em]
         have z:((kt.filter (own h n)).map (·.1)).Nodup:=(List.Sublist.map _ List.filter_sublist).nodup nd
         rw [List.nodup_iff_pairwise_ne,List.pairwise_map] at z ⊢
         exact z.imp fun h e=>h (congrArg Prod.snd e)
       refine ⟨l2,ts,rfl,cT.of el,fun t ht'=>⟨[],ht t ht',fun v hv=>(by cases hv)⟩,ndt,by omega,fun l3 ts' fl3 Vp pw3=>?_⟩
       have s7:Same H6 (upd H6 l3 (.lst ((ts'.map (·.1)).map V.ref))):=(Same.refl _).upd fl3
       have e7:upd H6 l3 (.lst ((ts'.map (·.1)).map V.ref)) l3=some (.lst ((ts'.map (·.1)).map V.ref)):=ao
       generalize Y6:upd H6 l3 (.lst ((ts'.map (·.1)).map V.ref))=H7 at s7 e7 ⊢
       clear Y6
       have pT:Paired (fun (x:V) (t:Addr × (Int × Str))=>x=V.ref t.1) ((ts'.map (·.1)).map V.ref) ts':=by
         have key:∀ l:List (Addr × (Int × Str)),Paired (fun (x:V) (t:Addr × (Int × Str))=>x=V.ref t.1) ((l.map (·.1)).map V.ref) l:=fun l=>by
           induction l with
           | nil=>exact .nil
           | cons x l ih=>exact .cons rfl ih
         exact key ts'
       refine ⟨l3,rfl,⟨_,cT.of e7⟩,fun D2 fD2=>fU (R':=fG) (F:=fun t r=>r=((t.2.2,t.2.1):Row)) (keep:=fun _=>true) (fun s r=>r.ts s.tups) (fun e r=>r.ts (dR e)) fD2 e7 (by rw [List.length_map,List.length_map,Vp.length_eq]; omega) pT (fun j y t H8 hj ry s8 b' N' Q3 _ q3=>?_) (fun ws rs H8 s8 SJ pw8 pf8=>?_)⟩
       . subst ry
         have et:H8 t.1=some (.tup [.int t.2.1,.str t.2.2]):=(s7.trans s8) _ _ (ht t (Vp.mem_iff.mp (List.mem_of_getElem? hj)))
         refine ⟨t.1,_,rfl,bW.of et,rfl,_,_,rfl,_,_,rfl,rfl,?_⟩
         refine ⟨by show 2<=sizeLine; omega,fun p8 hp8=>?_⟩
         exact q3 rfl _ _ _ ((Same.refl H8).upd hp8) ⟨p8,rfl,ao⟩ rfl
       . have s9:=s7.trans s8
         refine ⟨D2,ws,rfl,.inl ⟨cT.of SJ,fun p8 hp8=>?_⟩⟩
         have Z6:Same H8 (upd H8 p8 (.tup ws)):=(Same.refl H8).upd hp8
         refine q2 _ _ rs (s9.trans Z6) ⟨p8,ws,rfl,ao,aA (fun _ _ z=>z.ts Z6.tups) pw8⟩ ?_
         rw [List.filter_eq_self.mpr (fun _ _=>rfl)] at pf8
         have ers:rs.map Jo=ts'.map (·.2):=by
           have key:∀ {l:List (Addr × (Int × Str))} {m:List Row},Paired (fun t r=>r=((t.2.2,t.2.1):Row)) l m->m.map Jo=l.map (·.2):=fun {l m} z=>by
             induction z with
             | nil=>rfl
             | cons h _ ih=>rw [List.map_cons,List.map_cons,ih,h]; rfl
           exact key pf8
         refine ⟨?_,?_⟩
         . rw [ers]
           refine (Vp.map _).trans ?_
           rw [em]
         . rw [ers,List.pairwise_map]
           exact pw3
     . rw [List.filter_eq_self.mpr (fun _ _=>rfl)] at pf
       refine ⟨D1,vs,rfl,.inl ⟨cT.of Vo,fun p8 hp8=>?_⟩⟩
       have Z6:Same H6 (upd H6 p8 (.tup vs)):=(Same.refl H6).upd hp8
       refine q _ runs _ ⟨p8,vs,rfl,ao,aA (fun _ _ z=>z.ts Z6.tups) pv⟩ ⟨ns',lt',fun n=>?_,pf⟩ (((sH.trans s5).trans s6).trans Z6)
       rw [pm.mem_iff,mem n]
end
end jQ
namespace jQ
open PySem L2 fW
section
variable {H1:Hp} {D:Addr} {σ0:St} {g:BI->TG} {te:BI->TE} {End:Hp->Prop} {α β:Type}
theorem zF {K:PySem.W.Frag} {R:V->α->Prop} {R':Hp->V->β->Prop} {F:α->β->Prop} {a:Addr} {xs:List V} {bs:List α} (mono:∀ {H H':Hp} {v b},Same H H'->R' H v b->R' H' v b) (tQ:∀ {H:Hp} {o:HO} {v b},(∃ zs,H D=some (.lst zs))->R' H v b->R' (upd H D o) v b)
   (hD:H1 D=none) (hT:H1 a=some (.tup xs)) (few:xs.length<=1000) (pr:Paired R xs bs)
   (turn:∀ (i:Nat) (x:V) (c:α) (H':Hp),bs[i]?=some c->R x c->Same H1 H'->∀ b (Q:VK),(∀ v gK y,Same H' gK->R' gK v y->F c y->Q v gK)->g b x σ0 H' fun σ2 H2=>te b σ2 H2 Q)
   (fin:∀ vs ys H',Same H1 H'->H' D=some (.lst vs)->Paired (R' H') vs ys->Paired F bs ys->End H') :
   ∃ W:Nat->Nat->Hp->Prop,(∃ m,W 0 m (upd H1 D (.lst [])))/\∀ b,jE (R7 K a) (g b) (NZ) (jP D (te b)) σ0 End W :=
 qw (xs:=xs) (fun i H'=>∃ zs ys,dU H1 H' D zs/\zs.length<=i/\Paired (R' H') zs ys/\Paired F (bs.take i) ys) ⟨[],[],dU.start hD,Nat.zero_le _,.nil,.nil⟩ (fun i H' _ hz=>by obtain ⟨_,_,G,_⟩:=hz; exact bW.of (G.same _ _ hT)) (fun H' hz=>by
   obtain ⟨zs,ys,G,_,pz,pf⟩:=hz
   rw [pr.length,List.take_length] at pf
   exact fin zs ys H' G.same G.at' pz pf) (fun i x H' hx hi hz b=>by
   have mC:sizeLine=16777216:=sizeLine_eq
   obtain ⟨zs,ys,G,lz,pz,pf⟩:=hz
   obtain ⟨c,hc,rc⟩:=bw pr hx
   refine turn i x c H' hc rc G.same b _ (fun v gK y s r f=>?_)
   refine ⟨zs,(G.more s).at',by omega,nx hi ⟨zs++[v],ys++[y],(G.more s).put hD v,by rw [List.length_append]; simp; omega,?_,by rw [List.take_add_one,hc]; exact aY pf (.cons f .nil)⟩⟩
   exact aY (aA (fun _ _ z=>tQ ⟨_,(G.more s).at'⟩ (mono s z)) pz) (.cons (tQ ⟨_,(G.more s).at'⟩ r) .nil))
end
def wM (H:Hp) (kv:List Key × V) (l:Letter):Prop:=kv.1=kP l.1/\∃ b,kv.2=.ref b/\H b=some (.tup [.int l.2.1,gD l.2.2])
theorem wM.ts {H H':Hp} {kv:List Key × V} {l:Letter} (h:wM H kv l) (s:bV H H'):wM H' kv l:=let ⟨a,b,e,g⟩:=h; ⟨a,b,e,s _ _ g⟩
def QK (H:Hp) (a:Addr) (ls:List Letter):Prop:=∃ kvs,H a=some (.dT kvs)/\Paired (wM H) kvs ls
def yr (kt:List bH) (k:Str × Str):Bool:=decide (k.1∈kt.map (·.1)) && decide (k.2∈kt.map (·.1))
theorem n6 {H:Hp} {kvs:List (Key × V)} {kt:List bH} (p:Paired (j7 H) kvs kt) (n:Str):(cj kvs (.inr n)).isSome=decide (n∈kt.map (·.1)):=by
 obtain ⟨h1,h2⟩:=qI (n:=n) p
 cases e:ktM kt n with
 | none =>
   rw [h1 e]
   refine (decide_eq_false fun z=>?_).symm
   have:=Jm.mpr z
   rw [e] at this
   cases this
 | some q =>
   obtain ⟨b,h3,_⟩:=h2 q e
   rw [h3]
   exact (decide_eq_true (Jm.mp (by rw [e]; rfl))).symm
theorem Jp {H:Hp} {k:Str × Str}:∀ {kvs:List (List Key × V)} {ls:List Letter},Paired (wM H) kvs ls->k∈ls.map Prod.fst->∃ l∈ls,l.1=k/\∃ b,cj kvs (kP k)=some (.ref b)/\H b=some (.tup [.int l.2.1,gD l.2.2])
 | _,_,.nil,h=>by cases h
 | kv :: _,l :: _,.cons h t,hk=>by
   obtain ⟨h1,b,h2,h3⟩:=h
   by_cases z:l.1=k
   . exact ⟨l,List.mem_cons_self,z,b,by rw [cL (by rw [h1,z]),h2],h3⟩
   . rw [List.map_cons,List.mem_cons] at hk
     obtain ⟨l',m,e,b',v,g⟩:=Jp t (hk.resolve_left fun y=>z y.symm)
     exact ⟨l',List.mem_cons_of_mem _ m,e,b',by rw [cD (by rw [h1]; exact fun y=>z (vD y))]; exact v,g⟩
theorem QL {H:Hp} {kvs:List (List Key × V)} {ls:List Letter} (p:Paired (wM H) kvs ls):kvs.map (·.1)=(ls.map Prod.fst).map kP:=by
 induction p with
 | nil=>rfl
 | cons h _ ih=>rw [List.map_cons,List.map_cons,List.map_cons,ih,h.1]
def pJ (kt:List bH) (h h':aJ):Prop:=h'.name=h.name/\h'.low=h.low/\h'.high=h.high/\h'.aQ=h.aQ/\rQ h.name kt h'.runs
def qJ (kt:List bH) (ls ls':List Letter):Prop:=ls'.Perm (ls.filter fun l=>yr kt l.1)/\(ls'.map Prod.fst).Pairwise (fun a b=>CJ a b=true)
theorem oh {kt:List bH} {h a b:aJ} (x:pJ kt h a) (y:pJ kt h b):a=b:=by
 obtain ⟨a1,a2,a3,a4,a5⟩:=a
 obtain ⟨b1,b2,b3,b4,b5⟩:=b
 obtain ⟨x1,x2,x3,x4,x5⟩:=x
 obtain ⟨y1,y2,y3,y4,y5⟩:=y
 have e5:a5=b5:=Dv x5 y5
 simp only at x1 x2 x3 x4 y1 y2 y3 y4
 subst x1 x2 x3 x4 e5
 rw [<- y2,<- y3,<- y4,y1]
theorem mq {kt:List bH} {ls a b:List Letter} (x:qJ kt ls a) (y:qJ kt ls b):a=b:=by
 have z:∀ {l:List Letter},(l.map Prod.fst).Pairwise (fun a b=>CJ a b=true)->l.Pairwise (fun a b=>CJ a.1 b.1=true):=fun h=>List.pairwise_map.mp h
 exact (x.1.trans y.1.symm).eq_of_pairwise (fun a b _ _ h1 h2=>by have h3:=lU.trans _ _ _ h1 h2; rw [lU.Im] at h3; cases h3) (z x.2) (z y.2)
theorem Vq {ls:List Letter} (n:(ls.map Prod.fst).Nodup) {a b:Letter} (ha:a∈ls) (hb:b∈ls) (e:a.1=b.1):a=b:=by
 obtain ⟨i,hi,ei⟩:=List.getElem_of_mem ha
 obtain ⟨j,hj,ej⟩:=List.getElem_of_mem hb
 have a1:(ls.map Prod.fst)[i]?=some a.1:=by rw [List.getElem?_map,List.getElem?_eq_getElem hi,ei]; rfl
 have a2:(ls.map Prod.fst)[j]?=some a.1:=by rw [List.getElem?_map,List.getElem?_eq_getElem hj,ej,e]; rfl
 have ij:=(List.getElem?_inj (by rw [List.length_map]; exact hi) n).mp (a1.trans a2.symm)
 subst ij
 rw [<- ei,ej]
theorem Dz {kt:List bH} {ls ls':List Letter} {ks:List (Str × Str)} (n:(ls.map Prod.fst).Nodup) (pk:ks.Perm (ls.map Prod.fst)) (pw:ks.Pairwise (fun a b=>CJ a b=true)) (pf:Paired (fun (k:Str × Str) (l:Letter)=>l∈ls/\l.1=k) (ks.filter (yr kt)) ls'):qJ kt ls ls':=by
 have e:ls'.map Prod.fst=ks.filter (yr kt):=by
   have key:∀ {m:List (Str × Str)} {l:List Letter},Paired (fun (k:Str × Str) (l:Letter)=>l∈ls/\l.1=k) m l->l.map Prod.fst=m:=fun z=>by
     induction z with
     | nil=>rfl
     | cons h _ ih=>rw [List.map_cons,ih,h.2]
   exact key pf
 have sub:∀ l∈ls',l∈ls:=fun l hl=>by
   obtain ⟨i,hi,ei⟩:=List.getElem_of_mem hl
   obtain ⟨k,_,h1,_⟩:=fj pf (List.getElem?_eq_getElem hi)
   rw [<- ei]; exact h1
 have nk:ks.Nodup:=pk.nodup_iff.mpr n
 have n':(ls'.map Prod.fst).Nodup:=by rw [e]; exact nk.filter _
 have nls:∀ {l:List Letter},(l.map Prod.fst).Nodup->l.Nodup:=fun {l} h=>by
   rw [List.nodup_iff_pairwise_ne,List.pairwise_map] at h
   exact h.imp fun h z=>h (by rw [z])
 refine ⟨?_,by rw [e]; exact pw.filter _⟩
 refine (List.perm_ext_iff_of_nodup (nls n') ((nls n).filter _)).mpr fun l=>⟨fun h=>?_,fun h=>?_⟩
 . refine List.mem_filter.mpr ⟨sub l h,?_⟩
   have:l.1∈ks.filter (yr kt):=by rw [<- e]; exact List.mem_map.mpr ⟨l,h,rfl⟩
   exact (List.mem_filter.mp this).2
 . obtain ⟨h1,h2⟩:=List.mem_filter.mp h
   have h3:l.1∈ls'.map Prod.fst:=by
     rw [e]
     exact List.mem_filter.mpr ⟨pk.mem_iff.mpr (List.mem_map.mpr ⟨l,h1,rfl⟩),h2⟩
   obtain ⟨l2,m2,e2⟩:=List.mem_map.mp h3
   rw [<- Vq n (sub l2 m2) h1 e2]
   exact m2
theorem jY.same {H H':Hp} {a:Addr} {kt:List bH} (h:jY H a kt) (s:Same H H'):jY H' a kt:=let ⟨kvs,e,p⟩:=h; ⟨kvs,s _ _ e,aA (fun _ _ z=>z.ts s.tups) p⟩
theorem QK.same {H H':Hp} {a:Addr} {ls:List Letter} (h:QK H a ls) (s:Same H H'):QK H' a ls:=let ⟨kvs,e,p⟩:=h; ⟨kvs,s _ _ e,aA (fun _ _ z=>z.ts s.tups) p⟩
def rR:Sp:=fun vs H Q _=>∃ (x:V) (ak al:Addr) (hs:List aJ) (kt:List bH) (ls:List Letter),vs=[x,.ref ak,.ref al]/\jJ H x hs/\hs.length<=6/\jY H ak kt/\kt.length<=60/\(kt.map (·.1)).Nodup/\QK H al ls/\ls.length<=60/\(ls.map Prod.fst).Nodup /\
 ∀ (v:V) (hs':List aJ) (ls':List Letter) (H':Hp),dD H' v hs' ls'->Paired (pJ kt) hs hs'->qJ kt ls ls'->Same H H'->Q v H'
section
variable {P:Program} {w:World} {K:PySem.W.Frag} {mg:Str->Option Value} {base:Heap} {t8 t6 tR tL:Tok}
theorem pK:bf ["houses","rows","letters","full","sent_and_taken"] ["houses","rows","letters"] (aD gU):=⟨rfl,rfl,rfl,by decide +kernel,rfl,by decide +kernel,by decide +kernel⟩
theorem Gu {f wN:Addr} {fd zG:FuncData} (F:mK K "put_down" "put_down" gU f fd) (T:Txt mg t8 t6 tR tL)
   (QM:aO P w K mg base cg 1 wN zG ["house","rows"] wL) (QS:mg "runs_of" = some (.ref wN)) (QT:PySem.W.keepIn K (.ref wN)=true) (QV:Binds K zG ["house","rows"] []):aO P w K mg base cg 2 f fd ["houses","rows","letters"] rR:=by
 refine F.ok pK (fun vs H Q E h=>?_) (fun cdv A outer s H vs Q E hr h=>?_)
 . obtain ⟨x,ak,al,hs,kt,ls,rfl,_⟩:=h
   rfl
 . obtain ⟨x,ak,al,hs,kt,ls,rfl,⟨c,vh,rfl,ec,pc⟩,ag9,hk,abZ,nd,hl,aha,nl,q⟩:=h
   have mC:sizeLine=16777216:=sizeLine_eq
   have lc:=pc.length
   refine ⟨_,(au (aR (i:=3) pK.nd rfl (Or.inl rfl) (bJ bC rfl T.tuple PyProof.Rows.boot_tuple (aj (cB (iH:=aD gU) (own:=["house"]) (cap:=["rows"]) (ix:=[1]) rfl rfl ⟨rfl,by decide +kernel,by decide +kernel,by decide +kernel,rfl,by decide +kernel⟩ (jh (pV 0)) (fun b=>(aL (i:=0) (show (["house","rows"]:List Str).Nodup by decide +kernel) rfl (Or.inl rfl))) (fun b=>cN) (fun b=>(bA uE (pV 0) (bK (aj (aM QM hr rfl QS QT QV .nil aP (aj (bI fV (pV 0) aF (fun _ _=>rfl)) (aj (pV 1) aq))) aq))))) aq))) (au (vg (i:=4) pK.nd rfl rfl (iH:=aD gU) (own:=["pair"]) (cap:=["rows"]) (ix:=[1]) rfl rfl ⟨rfl,by decide +kernel,by decide +kernel,by decide +kernel,rfl,by decide +kernel⟩ (eG (aN (qH rfl) rfl T.sorted PyProof.Rows.boot_sorted (aj (pV 2) aq))) (fun b=>(aL (i:=0) (show (["pair","rows"]:List Str).Nodup by decide +kernel) rfl (Or.inl rfl))) (fun b=>(uG (tG (lK (lO (cU hr) (bI fV (pV 0) aF (fun _ _=>rfl)) (pV 1))) (pw_and1 (lK (lO (cU hr) (bI fV (pV 0) aF (fun _ _=>rfl)) (pV 1))))))) (fun b=>(pV 0))) (aG (bh (bK (aj (pV 3) (aj (bJ bC rfl T.tuple PyProof.Rows.boot_tuple (aj (cB (iH:=aD gU) (own:=["pair"]) (cap:=["letters"]) (ix:=[2]) rfl rfl ⟨rfl,by decide +kernel,by decide +kernel,by decide +kernel,rfl,by decide +kernel⟩ (eG (pV 4)) (fun b=>(aL (i:=0) (show (["pair","letters"]:List Str).Nodup by decide +kernel) rfl (Or.inl rfl))) (fun b=>cN) (fun b=>(bA uE (pV 0) (fO (cU hr) (pV 1) (pV 0) (fun _ _=>rfl))))) aq)) aq))))))),?_⟩
   refine ⟨c,rfl,⟨_,bW.of ec⟩,fun D1 Y7=>zF (R':=fY) (F:=pJ kt) (fun s r=>r.ts s.tups) (fun e r=>r.ts (dR e)) Y7 ec (by omega) pc (fun i x h H2 hi rx s2 b Q1 q1=>?_) (fun vs1 hs' H2 s2 Vo pv1 pf1=>?_)⟩
   . obtain ⟨a1,rfl,e1⟩:=rx
     have e2:=s2 _ _ e1
     refine cP (bW.of e2) (i:=0) (v:=.str h.name) (by rfl) ?_
     refine ⟨h.name,ak,kt,rfl,hk.same s2,abZ,nd,fun y runs H3 hy ro s3=>?_⟩
     refine ⟨by show 1<=sizeLine; omega,fun p3 hp3=>?_⟩
     have s4:Same H3 (upd H3 p3 (.tup [y])):=(Same.refl H3).upd hp3
     have e4:upd H3 p3 (.tup [y]) p3=some (.tup [y]):=ao
     generalize Dy:upd H3 p3 (.tup [y])=H4 at s4 e4 ⊢
     clear Dy
     refine ⟨a1,p3,_,_,rfl,rfl,bW.of ((s3.trans s4) _ _ e2),bW.of e4,by simp,by show 4+1<=sizeLine; omega,fun z=>(by cases z),fun _ p5 Sw=>?_⟩
     have s5:Same H4 (upd H4 p5 (.tup ([.str h.name,.int h.low,.int h.high,.int h.aQ]++[y]))):=(Same.refl H4).upd Sw
     exact q1 _ _ ⟨h.name,h.low,h.high,h.aQ,runs⟩ ((s3.trans s4).trans s5) ⟨p5,y,rfl,ao,hy.ts (s4.trans s5).tups⟩ ⟨rfl,rfl,rfl,rfl,ro⟩
   . refine ⟨D1,vs1,rfl,.inl ⟨cT.of Vo,fun p3 hp3=>?_⟩⟩
     have s3:Same H2 (upd H2 p3 (.tup vs1)):=(Same.refl H2).upd hp3
     have e3:upd H2 p3 (.tup vs1) p3=some (.tup vs1):=ao
     generalize Vr:upd H2 p3 (.tup vs1)=H3 at s3 e3 ⊢
     clear Vr
     have S3:=s2.trans s3
     have hh3:kJ H3 (.ref p3) hs':=⟨p3,vs1,rfl,e3,aA (fun _ _ z=>z.ts s3.tups) pv1⟩
     obtain ⟨yc,el,pl⟩:=hl.same S3
     refine ⟨al,yc,ls.map Prod.fst,rfl,el,QL pl,by rw [List.length_map]; omega,fun l as ks' fl pm pw la at'=>?_⟩
     have s4:Same H3 (upd H3 l (.lst (as.map V.ref))):=(Same.refl H3).upd fl
     have e4:upd H3 l (.lst (as.map V.ref)) l=some (.lst (as.map V.ref)):=ao
     generalize Dy:upd H3 l (.lst (as.map V.ref))=H4 at s4 e4 ⊢
     clear Dy
     have at4:∀ (i:Nat) (a:Addr) (k:Str × Str),as[i]?=some a->ks'[i]?=some k->H4 a=some (.tup [.str k.1,.str k.2]):=fun i a k h1 h2=>s4 _ _ (at' i a k h1 h2)
     have lk':ks'.length=ls.length:=by rw [pm.length_eq,List.length_map]
     have pas:Paired (fun (x:V) (k:Str × Str)=>∃ a,x=.ref a/\H4 a=some (.tup [.str k.1,.str k.2])) (as.map V.ref) ks':=by
       have key:∀ (as:List Addr) (ks:List (Str × Str)),as.length=ks.length->(∀ (i:Nat) (a:Addr) (k:Str × Str),as[i]?=some a->ks[i]?=some k->H4 a=some (.tup [.str k.1,.str k.2]))->Paired (fun (x:V) (k:Str × Str)=>∃ a,x=.ref a/\H4 a=some (.tup [.str k.1,.str k.2])) (as.map V.ref) ks:=by
         intro as
         induction as with
         | nil=>intro ks hl _; rw [List.eq_nil_of_length_eq_zero hl.symm]; exact .nil
         | cons a as ih =>
           intro ks hl h
           cases ks with
           | nil=>simp at hl
           | cons k ks=>exact .cons ⟨a,rfl,h 0 a k rfl rfl⟩ (ih ks (by simpa using hl) fun i a' k' h1 h2=>h (i+1) a' k' (by simpa using h1) (by simpa using h2))
       exact key as ks' la at4
     obtain ⟨kkv,ek,pk⟩:=hk.same (S3.trans s4)
     refine ⟨l,rfl,⟨_,cT.of e4⟩,fun D2 fD2=>fU (R':=fun H x (k:Str × Str)=>∃ a,x=.ref a/\H a=some (.tup [.str k.1,.str k.2])) (F:=fun k k'=>k=k') (keep:=yr kt) (fun s r=>let ⟨a,e,g⟩:=r; ⟨a,e,s _ _ g⟩) (fun e r=>let ⟨a,e',g⟩:=r; ⟨a,e',dR e _ _ g⟩) fD2 e4 (by rw [List.length_map]; omega) pas (fun i x k H5 hi rx s5 b N Q1 n1 q1=>?_) (fun vs2 ks2 H5 s5 SJ pv2 pf2=>?_)⟩
     . obtain ⟨a,rfl,ea⟩:=rx
       have ea5:=s5 _ _ ea
       have pk5:=aA (fun _ _ z=>j7.ts z s5.tups) pk
       refine cP (bW.of ea5) (i:=0) (v:=.str k.1) (by rfl) ?_
       refine ⟨ak,_,rfl,eU.k (k:=Sum.inr k.1) (s5 _ _ ek),_,rfl,?_⟩
       rw [n6 pk5]
       refine fP (fun z1=>?_) (fun z1=>?_)
       . refine cP (bW.of ea5) (i:=1) (v:=.str k.2) (by rfl) ?_
         refine ⟨ak,_,rfl,eU.k (k:=Sum.inr k.2) (s5 _ _ ek),_,rfl,?_⟩
         rw [n6 pk5]
         refine fP (fun z2=>?_) (fun z2=>?_)
         . exact q1 (by unfold yr; rw [z1,z2]; rfl) _ _ k (Same.refl _) ⟨a,rfl,ea5⟩ rfl
         . exact n1 (by unfold yr; rw [Bool.eq_false_iff.mpr z2,Bool.and_false]) _ (Same.refl _)
       . exact n1 (by unfold yr; rw [Bool.eq_false_iff.mpr z1,Bool.false_and]) _ (Same.refl _)
     . have ek2:ks2=ks'.filter (yr kt):=by
         have key:∀ {l m:List (Str × Str)},Paired (fun k k'=>k=k') l m->m=l:=fun z=>by
           induction z with
           | nil=>rfl
           | cons h _ ih=>rw [ih,h]
         exact key pf2
       subst ek2
       have S5:=(S3.trans s4).trans s5
       have f2:=List.length_filter_le (yr kt) ks'
       have lv2:=pv2.length
       refine ⟨D2,rfl,⟨_,cT.of SJ⟩,fun D3 fD3=>fU (R':=bx) (F:=fun k l=>l∈ls/\l.1=k) (keep:=fun _=>true) (fun s r=>r.ts s.tups) (fun e r=>r.ts (dR e)) fD3 SJ (by omega) pv2 (fun i x k H6 hi rx s6 b N Q1 _ q1=>?_) (fun vs3 ls' H6 s6 eD3 pv3 pf3=>?_)⟩
       . obtain ⟨a,rfl,ea⟩:=rx
         have ea6:=s6 _ _ ea
         obtain ⟨ap4,el6,pl6⟩:=hl.same (S5.trans s6)
         have mk:k∈ls.map Prod.fst:=pm.mem_iff.mp (List.mem_filter.mp (List.mem_of_getElem? hi)).1
         obtain ⟨l0,ml0,el0,bb,vv,gb⟩:=Jp pl6 mk
         have dg:eU H6 al (.ref a) (some (.ref bb)):=by
           have z:=eU.t (k:=kP k) el6 (b:=a) ea6
           rw [vv] at z
           exact z
         refine ⟨al,.ref bb,rfl,dg,?_⟩
         refine ⟨a,bb,_,_,rfl,rfl,bW.of ea6,bW.of gb,by simp,by show 2+2<=sizeLine; omega,fun z=>(by cases z),fun _ p7 hp7=>?_⟩
         refine q1 rfl _ _ l0 ((Same.refl H6).upd hp7) ⟨p7,rfl,?_⟩ ⟨ml0,el0⟩
         rw [ao,el0]
         rfl
       . rw [List.filter_eq_self.mpr (fun _ _=>rfl)] at pf3
         refine ⟨D3,vs3,rfl,.inl ⟨cT.of eD3,fun p7 hp7=>?_⟩⟩
         have s7:Same H6 (upd H6 p7 (.tup vs3)):=(Same.refl H6).upd hp7
         have e7:upd H6 p7 (.tup vs3) p7=some (.tup vs3):=ao
         generalize Y6:upd H6 p7 (.tup vs3)=H7 at s7 e7 ⊢
         clear Y6
         refine ⟨by show 2<=sizeLine; omega,fun p8 hp8=>?_⟩
         have s8:Same H7 (upd H7 p8 (.tup [.ref p3,.ref p7])):=(Same.refl H7).upd hp8
         have S38:=(((s4.trans s5).trans s6).trans s7).trans s8
         refine q _ hs' ls' _ ⟨p8,_,_,rfl,ao,hh3.ts S38.tups,⟨p7,vs3,rfl,s8 _ _ e7,aA (fun _ _ z=>z.ts (s7.trans s8).tups) pv3⟩⟩ pf1 (Dz nl pm pw pf3) (S3.trans S38)
end
end jQ
namespace L2
open PySem PySem.Spec PyProof.Rows
section
variable {prog:Program} {w:World} {A:Around} {E:Value->Shared->Prop} {s:Shared}
theorem Vs {d:Addr} (nS:(d == sysModules)=false) :
   MeetsIn prog w (Builtin.«dict.__len__» ⟨[.ref d],[]⟩) (fun _ R s=>∃ es ep,xX s.heap d es ep/\R (.ok (.ret (.int es.size s.toks))) { s with toks:=s.toks+1 }) :=
 .of_wp fun A R s ⟨es,ep,hm,q⟩=>by
   obtain ⟨o,e,_,dat⟩:=hm
   show wpAny _ _ (dictSize d >>= _) _ _ _
   unfold dictSize
   refine wpAny_bind (wpAny_bind (wpAny_dictEntries e dat (wpAny_pure (?_))))
   show wpAny _ _ (Builtin.Dict.pendingCount d >>= _) _ _ _
   refine wpAny_bind (wpAny_pendingCount_other nS (wpAny_ret_mkInt ?_))
   rw [Nat.add_zero]; exact q
theorem Vt {d:Addr} {es:Array DictEntry} {ep:Nat} {Q:Value->Shared->Prop} (nS:(d == sysModules)=false) (hm:xX s.heap d es ep) (fit:(es.size:Int)<2 ^ 63) (q:∀ t tk,Q (.int es.size t) { s with toks:=tk }) :
   wpAny (model prog w) A (call (.builtin "len") [.ref d]) Q E s:=by
 refine Calls.call_function_entry kind_len plain_len entry_len (args_len1 _) ?_
 unfold Builtin.«len»
 refine wpAny_bind (m:=oneArg "len" _) (wpAny_pure (?_))
 refine wpAny_bind (m:=callSpecial? (.ref d) (Str.ofString "__len__")) (wpAny_callSpecial?_slot (name:=Str.ofString "__len__") hm.typ PySem.F.slot_dict_len
   (call_meetsIn PySem.F.slot_dict_len hm.typ PySem.F.entry_dict_len (PySem.F.args_dict_len_1 _) (Vs nS) ⟨es,ep,hm,?_⟩))
 refine wpAny_bind (wpAny_holding (wpAny_pure (wpAny_bind (wpAny_letGo ?_))))
 show wpAny _ _ (if ((es.size:Nat):Int)<0 then _ else _) _ _ _
 rw [if_neg (show ¬ ((es.size:Nat):Int)<0 by omega)]
 show wpAny _ _ (if ((es.size:Nat):Int) ≥ 2 ^ 63 then _ else _) _ _ _
 rw [if_neg (show ¬ ((es.size:Nat):Int) ≥ 2 ^ 63 by omega)]
 exact wpAny_bind (wpAny_mkInt (wpAny_pure ⟨_,rfl,q _ _⟩))
end
theorem Lq {X:Cx}:dM X (.builtin "len") (fun xs H Q=>∃ a kvs,xs=[V.ref a]/\H a=some (.dT kvs)/\Q (.int (List.length kvs)) H):=by
 intro pins s σ H xs us Q I r h
 obtain ⟨a,kvs,rfl,ha,q⟩:=h
 obtain ⟨u,rfl,ru⟩:=vals1 r
 cases ru
 obtain ⟨z,nS,ys,rel,o,es,ep,g1,g2,g3,g4,g5⟩:=(show bQ X.prog X.w H s.heap a (.dT kvs) from I.hok a _ ha)
 have e:es.size=kvs.length:=by rw [<- Array.length_toList,g4,List.length_map,<- Paired.length rel]
 have mC:sizeLine=16777216:=sizeLine_eq
 refine Vt nS ⟨o,g1,g2,g3⟩ (by omega) fun t tk=>?_
 rw [e]
 exact ⟨.int kvs.length,H,I.kept (t':=tk) fun _ _ e=>e,⟨t,rfl⟩,q⟩
end L2
namespace jQ
open PySem L2 fW
abbrev rT:Stmt:=inClass (top 48) 0
abbrev iz:Stmt:=inClass (top 48) 1
abbrev iB:Stmt:=inClass (top 48) 2
abbrev pN:Stmt:=inClass (top 48) 3
abbrev ju:Stmt:=inClass (top 48) 4
abbrev rU:Stmt:=inClass (top 48) 5
abbrev jw:Stmt:=inClass (top 48) 6
def yt (ch:V) (ak al ae:Addr):List (Str × V):=[("houses",ch),("kept",.ref ak),("letters",.ref al),("ends",.ref ae)]
theorem QW (ch:V) (ak al ae:Addr):(yt ch ak al ae).lookup ("houses" : Str)=some ch:=by rfl
theorem rW (ch:V) (ak al ae:Addr):(yt ch ak al ae).lookup ("kept" : Str)=some (.ref ak):=by rfl
theorem wO (ch:V) (ak al ae:Addr):(yt ch ak al ae).lookup ("letters" : Str)=some (.ref al):=by rfl
theorem Bq (ch:V) (ak al ae:Addr):(yt ch ak al ae).lookup ("ends" : Str)=some (.ref ae):=by rfl
theorem QX (ch:V) (ak QZ al ae:Addr):gJ "kept" (.ref QZ) (yt ch ak al ae)=yt ch QZ al ae:=by rfl
def h0 (hs:List aJ):Str:=(hs.map aJ.name).headD ""
def Jq (H:Hp) (a:Addr) (n:Str):Prop:=∃ kvs:List (Key × V),H a=some (.dK kvs)/\(kvs.length<=1/\∀ kv∈kvs,kv.1=.inr n)/\∀ k v,cj kvs k=some v->∃ b r,v=.ref b/\H b=some (.tup [.int 0,.int r])
structure mH (C:Addr) (H:Hp) (x dx:Addr) (ch:V) (ak al ae:Addr) (hs:List aJ) (kt:List bH) (ls:List Letter):Prop where
 ob:H x=some (.ins C dx (yt ch ak al ae))
 ck:jJ H ch hs
 kp:jY H ak kt
 lt:QK H al ls
 en:Jq H ae (h0 hs)
 ne:ak≠ae
 nd:(kt.map (·.1)).Nodup
 nl:(ls.map Prod.fst).Nodup
 fk:kt.length<=24
 fl:ls.length<=24
 f6:hs.length<=6
structure KCls (K:PySem.W.Frag) (mg:Str->Option Value) (C:Addr) (t9:Tok):Prop where
 cl:Cls K C
 nH:j5 K C "houses"
 nK:j5 K C "kept"
 nL:j5 K C "letters"
 nE:j5 K C "ends"
 mgC:mg "Keeper" = some (.ref C)
 run:mg "MOST_RUN" = some (.int 9 t9)
theorem Jq.same {H H':Hp} {a:Addr} {n:Str} (h:Jq H a n) (s:Same H H'):Jq H' a n:=let ⟨kvs,e,l,f⟩:=h; ⟨kvs,s _ _ e,l,fun k v hv=>let ⟨b,r,e1,e2⟩:=f k v hv; ⟨b,r,e1,s _ _ e2⟩⟩
theorem jJ.ts {H H':Hp} {v:V} {hs:List aJ} (h:jJ H v hs) (s:bV H H'):jJ H' v hs:=let ⟨a,vs,e,g,p⟩:=h; ⟨a,vs,e,s _ _ g,aA (fun _ _ z=>oW.ts z s) p⟩
theorem mH.same {C:Addr} {H H':Hp} {x dx:Addr} {ch:V} {ak al ae:Addr} {hs:List aJ} {kt:List bH} {ls:List Letter} (h:mH C H x dx ch ak al ae hs kt ls) (s:Same H H'):mH C H' x dx ch ak al ae hs kt ls :=
 ⟨s _ _ h.ob,h.ck.ts s.tups,h.kp.same s,h.lt.same s,h.en.same s,h.ne,h.nd,h.nl,h.fk,h.fl,h.f6⟩
def qK (C:Addr):Sp:=fun vs H Q _=>∃ (x dx:Addr) (ch:V) (hs:List aJ),vs=[.ref x,ch]/\H x=some (.ins C dx [])/\jJ H ch hs/\bL hs/\∀ (ak al ae:Addr) (H':Hp),H ak=none->H al=none->H ae=none->mH C H' x dx ch ak al ae hs [] []->(∀ b o,b≠x->H b=some o->H' b=some o)->Q .non H'
def ou (C:Addr):Sp:=fun vs H Q _=>∃ (x dx:Addr) (ch:V) (ak al ae:Addr) (hs:List aJ) (kt:List bH) (ls:List Letter) (h:Str) (r:Int),vs=[.ref x,.str h,.int r]/\mH C H x dx ch ak al ae hs kt ls/\h∈hs.map aJ.name/\0<=r/\r<=9/\∀ H',Same H H'->Q .non H'
def pO (C:Addr):Sp:=fun vs H Q _=>∃ (x dx:Addr) (ch:V) (ak al ae:Addr) (hs:List aJ) (kt:List bH) (ls:List Letter) (h n:Str) (r i:Int),vs=[.ref x,.str h,.int r,.str n,.int i]/\mH C H x dx ch ak al ae hs kt ls/\Good n/\Good h/\(∀ p∈kt,Good p.2.1)/\n ∉ kt.map (·.1)/\(h,r,i) ∉ kt.map (·.2)/\∀ H',Same H H'->Q .non H'
section
variable {P:Program} {w:World} {K:PySem.W.Frag} {mg:Str->Option Value} {base:Heap} {t8 t6 tR tL t9:Tok} {C:Addr}
theorem Vu:bf ["self","houses"] ["self","houses"] (aD rT):=⟨rfl,rfl,rfl,by decide +kernel,rfl,by decide +kernel,by decide +kernel⟩
theorem Vv {f rY:Addr} {fd wQ:FuncData} (F:mK K "__init__" "Keeper.__init__" rT f fd) (T:Txt mg t8 t6 tR tL) (TC:KCls K mg C t9)
   (Lr:aO P w K mg base cg 4 rY wQ ["thing"] rO) (Ls:mg "are_empty_houses" = some (.ref rY)) (Lw:PySem.W.keepIn K (.ref rY)=true) (Lx:Binds K wQ ["thing"] []):aO P w K mg base cg 5 f fd ["self","houses"] (qK C):=by
 refine F.ok Vu (fun vs H Q E h=>?_) (fun cdv A outer s H vs Q E hr h=>?_)
 . obtain ⟨x,dx,ch,hs,rfl,_⟩:=h
   rfl
 . obtain ⟨x,dx,ch,hs,rfl,ex,hc,gh,q⟩:=h
   refine ⟨_,(au (cC (dH (xW (aM Lr hr rfl Ls Lw Lx .nil aP (aj (pV 1) aq)))) (aG (dZ)) aW) (au (uY (pV 0) (pV 1) rfl) (au (uY (pV 0) jD rfl) (au (uY (pV 0) Cq rfl) (aG (uY (pV 0) jD rfl)))))),?_⟩
   refine ⟨ch,hs,rfl,hc,gh,fun H1 s1=>?_⟩
   have ex1:=s1 _ _ ex
   refine ⟨x,C,dx,[],rfl,ex1,TC.cl,TC.nH,by show 0<1000; decide,?_⟩
   intro ak fk
   have WK:x≠ak:=fun z=>by rw [<- z,ao] at fk; cases fk
   refine ⟨x,C,dx,_,rfl,by rw [aB WK]; exact ao,TC.cl,TC.nK,by show 1<1000; decide,?_⟩
   intro al fl
   have nxl:x≠al:=fun z=>by rw [<- z,ao] at fl; cases fl
   refine ⟨x,C,dx,_,rfl,by rw [aB nxl]; exact ao,TC.cl,TC.nL,by show 2<1000; decide,?_⟩
   intro ae fe
   have nxe:x≠ae:=fun z=>by rw [<- z,ao] at fe; cases fe
   refine ⟨x,C,dx,_,rfl,by rw [aB nxe]; exact ao,TC.cl,TC.nE,by show 3<1000; decide,?_⟩
   have fk1:H1 ak=none:=by rw [aB (Ne.symm WK)] at fk; exact fk
   have nlk:al≠ak:=fun z=>by rw [z,aB (Ne.symm WK),ao] at fl; cases fl
   have fl1:H1 al=none:=by rw [aB (Ne.symm nxl),aB nlk,aB (Ne.symm nxl)] at fl; exact fl
   have nel:ae≠al:=fun z=>by rw [z,aB (Ne.symm nxl),ao] at fe; cases fe
   have nek:ae≠ak:=fun z=>by rw [z,aB (Ne.symm WK),aB (Ne.symm nlk),aB (Ne.symm WK),ao] at fe; cases fe
   have fe1:H1 ae=none:=by rw [aB (Ne.symm nxe),aB nel,aB (Ne.symm nxe),aB nek,aB (Ne.symm nxe)] at fe; exact fe
   have sm:∀ b o,b≠x->H b=some o->(upd (upd (upd (upd (upd (upd (upd H1 x (.ins C dx (gJ "houses" ch []))) ak (.dK [])) x (.ins C dx (gJ "kept" (.ref ak) (gJ "houses" ch [])))) al (.dT [])) x (.ins C dx (gJ "letters" (.ref al) (gJ "kept" (.ref ak) (gJ "houses" ch []))))) ae (.dK [])) x (.ins C dx (gJ "ends" (.ref ae) (gJ "letters" (.ref al) (gJ "kept" (.ref ak) (gJ "houses" ch [])))))) b=some o:=fun b o n e=>by
     have e1:=s1 _ _ e
     rw [aB n,aB (aH e1 fe1),aB n,aB (aH e1 fl1),aB n,aB (aH e1 fk1),aB n]
     exact e1
   refine q ak al ae _ (s1.free fk1) (s1.free fl1) (s1.free fe1) ⟨ao,hc.ts fun b xs e=>sm b _ (fun z=>by rw [z,ex] at e; cases e) e,⟨[],?_,.nil⟩,⟨[],?_,.nil⟩,⟨[],?_,⟨Nat.zero_le _,fun kv hv=>(by cases hv)⟩,fun k v hv=>(by cases hv)⟩,Ne.symm nek,.nil,.nil,Nat.zero_le _,Nat.zero_le _,gh.hi⟩ sm
   . rw [aB (Ne.symm WK),aB (Ne.symm nek),aB (Ne.symm WK),aB (Ne.symm nlk),aB (Ne.symm WK),ao]
   . rw [aB (Ne.symm nxl),aB (Ne.symm nel),aB (Ne.symm nxl),ao]
   . rw [aB (Ne.symm nxe),ao]
theorem Gv:bf ["self","house","run"] ["self","house","run"] (aD iz):=⟨rfl,rfl,rfl,by decide +kernel,rfl,by decide +kernel,by decide +kernel⟩
theorem Gw {f cQ:Addr} {fd dG:FuncData} (F:mK K "need_run" "Keeper.need_run" iz f fd) (T:Txt mg t8 t6 tR tL) (TC:KCls K mg C t9)
   (iI:aO P w K mg base cg 1 cQ dG ["thing"] (lV K)) (iJ:mg "is_whole" = some (.ref cQ)) (k_whole:PySem.W.keepIn K (.ref cQ)=true) (iK:Binds K dG ["thing"] []):aO P w K mg base cg 2 f fd ["self","house","run"] (ou C):=by
 refine F.ok Gv (fun vs H Q E h=>?_) (fun cdv A outer s H vs Q E hr h=>?_)
 . obtain ⟨x,dx,ch,ak,al,ae,hs,kt,ls,h,r,rfl,_⟩:=h
   rfl
 . obtain ⟨x,dx,ch,ak,al,ae,hs,kt,ls,h,r,rfl,kp,mh,r0,r9,q⟩:=h
   have mC:sizeLine=16777216:=sizeLine_eq
   have f6:=kp.f6
   refine ⟨_,(au (cC (uq (dH (xW (aN gP rfl T.Um PyProof.Rows.boot_isinstance (aj (pV 1) (aj (jk (v:=.ty "str") rfl T.str PyProof.Rows.boot_str rfl) aq))))) (pw_or1 (qt Aa (pV 1) (cB (iH:=aD iz) (own:=["known"]) (cap:=[]) (ix:=[]) rfl rfl ⟨rfl,by decide +kernel,by decide +kernel,by decide +kernel,rfl,by decide +kernel⟩ (jh (eX (pV 0) rfl)) (fun b=>(aL (i:=0) (show (["known"]:List Str).Nodup by decide +kernel) rfl (Or.inl rfl))) (fun b=>cN) (fun b=>(bI fV (pV 0) aF (fun _ _=>rfl)))) (by with_unfolding_all rfl)))) (aG (dZ)) aW) (aG (cC (uq (dH (xW (aM iI hr rfl iJ k_whole iK .nil aP (aj (pV 2) aq)))) (pw_or1 (dH (X6 oLe oLe aF (pV 2) (pZ (v:=.int 9) rfl TC.run ⟨_,rfl⟩))))) (aG (dZ)) aW))),?_⟩
   refine ⟨_,_,_,_,rfl,.str h,rfl,?_⟩
   obtain ⟨c,vh,ec0,ec,pc⟩:=kp.ck
   have lc:=pc.length
   refine ⟨x,C,dx,_,ch,rfl,kp.ob,TC.cl,TC.nH,QW _ _ _ _,?_⟩
   subst ec0
   refine ⟨c,rfl,⟨_,bW.of ec⟩,fun D hD=>comp_map (xs:=vh) (ys:=hs.map fun h=>V.str h.name) hD (bW.of ec) (by omega) (by rw [List.length_map]; omega) (fun i x H3 hx s4 b R hR=>?_) (fun H3 s4 e2=>?_)⟩
   . obtain ⟨h,hh',ca⟩:=bw pc hx
     obtain ⟨a1,rfl,g1⟩:=ca.ts s4.tups
     refine cP (bW.of g1) (i:=0) (v:=.str h.name) (by rfl) ?_
     exact hR H3 _ (by rw [List.getElem?_map,hh']; rfl) (Same.refl _)
   . have inn:inV (.str h) (hs.map fun h=>V.str h.name)=true:=by
       obtain ⟨h',m,rfl⟩:=List.mem_map.mp mh
       exact List.any_eq_true.mpr ⟨.str h'.name,List.mem_map.mpr ⟨h',m,rfl⟩,by simp [Tw]⟩
     refine ⟨D,_,rfl,.inl (cT.of e2),rfl,List.all_eq_true.mpr fun v hv=>by obtain ⟨_,_,rfl⟩:=List.mem_map.mp hv; rfl,?_⟩
     rw [inn]
     refine ⟨_,rfl,qZ,?_⟩
     refine fP (fun z=>?_) (fun z=>absurd (decide_eq_true r0) z)
     refine fP (fun w=>by rw [decide_eq_true r9] at w; cases w) (fun w=>?_)
     exact q H3 s4
end
end jQ
namespace jQ
open PySem L2 fW
def Jr (p:Place):PyData:=.tuple [.str p.1,.int p.2.1,.int p.2.2]
theorem Vw (p q:Place):PyData.eqv (Jr p) (Jr q)=decide (p=q):=by
 obtain ⟨a,b,c⟩:=p
 obtain ⟨d,e,f⟩:=q
 simp only [Jr,PyData.eqv,PyData.eqvAll,Bool.and_true]
 rw [Bool.eq_iff_iff]
 simp [Prod.mk.injEq]
theorem Js {p:Place} (g:Good p.1):(Jr p).canLay0=true:=by
 have z:=g.ok
 simp [Jr,PyData.canLay0,PyData.canLayAll0,z]
theorem Vx {ps:List Place} (g:∀ p∈ps,Good p.1):PyData.canLayAll0 (ps.map Jr)=true:=by
 induction ps with
 | nil=>rfl
 | cons p ps ih =>
   rw [List.map_cons]
   unfold PyData.canLayAll0
   rw [Js (g p List.mem_cons_self),ih fun q hq=>g q (List.mem_cons_of_mem _ hq)]
   rfl
theorem Vy {K:PySem.W.Frag} {H H':Hp} {kvs:List (Key × V)} {kt:List bH} (p:Paired (j7 H) kvs kt) (s:bV H H'):Mz K H' (kvs.map (·.2)) ((kt.map (·.2)).map Jr):=by
 induction p with
 | nil=>exact .nil
 | cons h _ ih =>
   obtain ⟨_,b,e,g⟩:=h
   rw [List.map_cons,List.map_cons,List.map_cons,e]
   exact .cons (.tup (bW.of (s _ _ g)) (.cons (.str _) (.cons (.int _) (.cons (.int _) .nil)))) ih
section
variable {P:Program} {w:World} {K:PySem.W.Frag} {mg:Str->Option Value} {base:Heap} {t8 t6 tR tL t9:Tok} {C:Addr}
theorem DG:bf ["self","house","run","name","reading"] ["self","house","run","name","reading"] (aD iB):=⟨rfl,rfl,rfl,by decide +kernel,rfl,by decide +kernel,by decide +kernel⟩
theorem DK {f jH cQ:Addr} {fd jW dG:FuncData} (F:mK K "need_free" "Keeper.need_free" iB f fd) (T:Txt mg t8 t6 tR tL) (TC:KCls K mg C t9)
   (rF:aO P w K mg base cg 1 jH jW ["thing"] (vG K)) (rG:mg "is_name" = some (.ref jH)) (rH:PySem.W.keepIn K (.ref jH)=true) (rJ:Binds K jW ["thing"] [])
   (iI:aO P w K mg base cg 1 cQ dG ["thing"] (lV K)) (iJ:mg "is_whole" = some (.ref cQ)) (k_whole:PySem.W.keepIn K (.ref cQ)=true) (iK:Binds K dG ["thing"] []):aO P w K mg base cg 2 f fd ["self","house","run","name","reading"] (pO C):=by
 refine F.ok DG (fun vs H Q E h=>?_) (fun cdv A outer s H vs Q E hr h=>?_)
 . obtain ⟨x,dx,ch,ak,al,ae,hs,kt,ls,h,n,r,i,rfl,_⟩:=h
   rfl
 . obtain ⟨x,dx,ch,ak,al,ae,hs,kt,ls,h,n,r,i,rfl,kp,gn,gh,gk,nn,np,q⟩:=h
   have mC:sizeLine=16777216:=sizeLine_eq
   refine ⟨_,(au (cC (uq (dH (xW (aM rF hr rfl rG rH rJ .nil aP (aj (pV 3) aq)))) (pw_or1 (lK (lO (cU hr) (pV 3) (eX (pV 0) rfl))))) (aG (dZ)) aW) (aG (cC (uq (dH (xW (aM iI hr rfl iJ k_whole iK .nil aP (aj (pV 4) aq)))) (pw_or1 (qt (YM hr.units) (bK (aj (pV 1) (aj (pV 2) (aj (pV 4) aq)))) (bJ (Gm rfl) rfl T.list PyProof.Rows.boot_list (aj (Vg (eX (pV 0) rfl)) aq)) (by with_unfolding_all rfl)))) (aG (dZ)) aW))),?_⟩
   refine ⟨_,rfl,gn.thing,fun H1 s1=>?_⟩
   rw [gn.CN]
   have Gx:=kp.same s1
   refine ⟨x,C,dx,_,_,rfl,Gx.ob,TC.cl,TC.nK,rW _ _ _ _,?_⟩
   obtain ⟨kvs,ek,pk⟩:=Gx.kp
   refine ⟨ak,_,rfl,eU.k (k:=Sum.inr n) ek,_,rfl,?_⟩
   rw [n6 pk,decide_eq_false nn]
   refine ⟨_,rfl,qZ,?_⟩
   refine ⟨by show 3<=sizeLine; omega,fun p hp=>?_⟩
   have s2:Same H1 (upd H1 p (.tup [.str h,.int r,.int i])):=(Same.refl H1).upd hp
   have e2:upd H1 p (.tup [.str h,.int r,.int i]) p=some (.tup [.str h,.int r,.int i]):=ao
   generalize hH2:upd H1 p (.tup [.str h,.int r,.int i])=H2 at s2 e2 ⊢
   clear hH2
   refine ⟨x,C,dx,_,_,rfl,s2 _ _ Gx.ob,TC.cl,TC.nK,rW _ _ _ _,?_⟩
   refine ⟨ak,kvs,rfl,.inl (s2 _ _ ek),fun v hv=>?_⟩
   have s3:Same H2 (upd H2 v (tO v ak)):=(Same.refl H2).upd hv
   have e3:upd H2 v (tO v ak) v=some (tO v ak):=ao
   generalize Vr:upd H2 v (tO v ak)=H3 at s3 e3 ⊢
   clear Vr
   refine ⟨v,ak,kvs,rfl,e3,.inl ((s2.trans s3) _ _ ek),fun l hl=>?_⟩
   have s4:Same H3 (upd H3 l (.lst (kvs.map (·.2)))):=(Same.refl H3).upd hl
   have e4:upd H3 l (.lst (kvs.map (·.2))) l=some (.lst (kvs.map (·.2))):=ao
   generalize Dy:upd H3 l (.lst (kvs.map (·.2)))=H4 at s4 e4 ⊢
   clear Dy
   refine ⟨Jr (h,r,i),(kt.map (·.2)).map Jr,.tup (bW.of ((s3.trans s4) _ _ e2)) (.cons (.str _) (.cons (.int _) (.cons (.int _) .nil))),.lst (cT.of e4) (Vy pk ((s2.trans s3).trans s4).tups),Js gh,by simp [Jr,PyData.depth,PyData.depthAll],Vx (fun p hp=>by obtain ⟨y,hy,rfl⟩:=List.mem_map.mp hp; exact gk y hy),?_⟩
   have ahl:((kt.map (·.2)).map Jr).any (fun e=>PyData.eqv e (Jr (h,r,i)))=false:=by
     rw [List.any_map,List.any_eq_false]
     intro p hp z
     have z':PyData.eqv (Jr p) (Jr (h,r,i))=true:=z
     rw [Vw] at z'
     exact np (of_decide_eq_true z' ▸ hp)
   rw [ahl]
   exact q H4 (((s1.trans s2).trans s3).trans s4)
end
end jQ
namespace jQ
open PySem L2 fW
def Br (C:Addr):Sp:=fun vs H Q _=>∃ (x dx:Addr) (ch:V) (ak al ae:Addr) (hs:List aJ) (kt:List bH) (ls:List Letter) (h n:Str) (r i:Int),vs=[.ref x,.str h,.int r,.str n,.int i]/\mH C H x dx ch ak al ae hs kt ls/\Good n/\Good h/\(∀ p∈kt,Good p.2.1)/\n ∉ kt.map (·.1)/\(h,r,i) ∉ kt.map (·.2)/\h∈hs.map aJ.name/\1<=r/\r<=9/\kt.length<24 /\
 (∀ l∈ls,dJ (ktM (kt++[(n,h,r,i)])) l.1.1 l.1.2=false)/\∀ (QZ:Addr) (H':Hp),H QZ=none->mH C H' x dx ch QZ al ae hs (kt++[(n,h,r,i)]) ls->aZ x H H'->Q (.str "kept") H'
theorem DN {H H':Hp} {kvs:List (Key × V)} {kt:List bH} {n:Str} {p:Place} {b:Addr} (pk:Paired (j7 H) kvs kt) (nn:n ∉ kt.map (·.1)) (s:bV H H') (eb:H' b=some (.tup [.str p.1,.int p.2.1,.int p.2.2])):Paired (j7 H') (putK kvs (.inr n) (.ref b)) (kt++[(n,p)]):=by
 have z:(kvs.any fun kv=>decide (kv.1=Sum.inr n))=false:=by
   rw [iU,n6 pk,decide_eq_false nn]
 unfold putK
 rw [z,if_neg Bool.false_ne_true]
 exact aY (aA (fun _ _ y=>j7.ts y s) pk) (.cons ⟨rfl,b,rfl,eb⟩ .nil)
theorem Vz {r i e:Int} (h:1<=r):HT.lexLe [r,i] [0,e]=false:=by
 have:¬ r=0:=by omega
 have h2:¬ r<=0:=by omega
 simp [HT.lexLe,this,h2]
section
variable {P:Program} {w:World} {K:PySem.W.Frag} {mg:Str->Option Value} {base:Heap} {t8 t6 tR tL t9:Tok} {C:Addr}
theorem Jt:bf ["self","house","run","name","reading","rows"] ["self","house","run","name","reading"] (aD pN):=⟨rfl,rfl,rfl,by decide +kernel,rfl,by decide +kernel,by decide +kernel⟩
theorem VB {f jK lB wR:Addr} {fd lC jL tW:FuncData} (F:mK K "tell" "Keeper.tell" pN f fd) (T:Txt mg t8 t6 tR tL) (TC:KCls K mg C t9)
   (wU:aO P w K mg base cg 3 jK lC ["rows","sent","taken"] qG) (wV:mg "is_within_a_house" = some (.ref jK)) (wW:PySem.W.keepIn K (.ref jK)=true) (wX:Binds K lC ["rows","sent","taken"] [])
   (rZ:aO P w K mg base cg 3 lB jL ["self","house","run"] (ou C)) (su:Meth K C "need_run" lB) (sy:Binds K jL ["self","house","run"] [])
   (Gy:aO P w K mg base cg 3 wR tW ["self","house","run","name","reading"] (pO C)) (Gz:Meth K C "need_free" wR) (GC:Binds K tW ["self","house","run","name","reading"] []):aO P w K mg base cg 4 f fd ["self","house","run","name","reading"] (Br C):=by
 refine F.ok Jt (fun vs H Q E h=>?_) (fun cdv A outer s H vs Q E hr h=>?_)
 . obtain ⟨x,dx,ch,ak,al,ae,hs,kt,ls,h,n,r,i,rfl,_⟩:=h
   rfl
 . obtain ⟨x,dx,ch,ak,al,ae,hs,kt,ls,h,n,r,i,rfl,kp,gn,gh,gk,nn,np,mh,r1,r9,l24,wi,q⟩:=h
   have mC:sizeLine=16777216:=sizeLine_eq
   refine ⟨_,(au (fM (jl (pV 0) TC.cl su rZ hr sy .nil aP (aj (pV 1) (aj (pV 2) aq)))) (au (fM (jl (pV 0) TC.cl Gz Gy hr GC .nil aP (aj (pV 1) (aj (pV 2) (aj (pV 3) (aj (pV 4) aq)))))) (au (cC (qt oGe (aN qY rfl T.len PySem.boot_len (aj (eX (pV 0) rfl) aq)) (pZ (v:=.int 24) rfl T.abw ⟨_,rfl⟩) (bB _)) (aG (dZ)) aW) (au (aR (i:=5) Jt.nd rfl (Or.inr rfl) (bJ Fz rfl T.dict PyProof.Rows.boot_dict (aj (eX (pV 0) rfl) aq))) (au (lQ (cU hr) (pV 5) (pV 3) (bK (aj (pV 1) (aj (pV 2) (aj (pV 4) aq)))) rfl) (au (cC (xW (Vb (aN (O9 rfl) rfl T.any PyProof.Rows.boot_any (aj (cB (iH:=aD pN) (own:=["sent","taken"]) (cap:=["rows"]) (ix:=[5]) rfl rfl ⟨rfl,by decide +kernel,by decide +kernel,by decide +kernel,rfl,by decide +kernel⟩ (Qo (eX (pV 0) rfl)) (fun b=>(jg rfl (aU (aL (i:=0) (show (["sent","taken","rows"]:List Str).Nodup by decide +kernel) rfl (Or.inl rfl)) (aU (aL (i:=1) (show (["sent","taken","rows"]:List Str).Nodup by decide +kernel) rfl (Or.inl rfl)) fX)))) (fun b=>cN) (fun b=>(aM wU hr rfl wV wW wX .nil aP (aj (pV 2) (aj (pV 0) (aj (pV 1) aq)))))) aq)))) (aG (dZ)) aW) (au (cC (tG (lK (lO (cU hr) (pV 1) (eX (pV 0) rfl))) (pw_and1 (qt (YL hr.Xq) (bK (aj (pV 2) (aj (pV 4) aq))) (fO (cU hr) (eX (pV 0) rfl) (pV 1) (fun _ _=>rfl)) (bB _)))) (aG (dZ)) aW) (au (uY (pV 0) (pV 5) rfl) (aG (bh jC)))))))))),?_⟩
   refine ⟨x,dx,_,rfl,kp.ob,by rfl,?_⟩
   refine ⟨x,dx,ch,ak,al,ae,hs,kt,ls,h,r,rfl,kp,mh,by omega,r9,fun H1 s1=>?_⟩
   have Gx:=kp.same s1
   refine ⟨x,dx,_,rfl,Gx.ob,by rfl,?_⟩
   refine ⟨x,dx,ch,ak,al,ae,hs,kt,ls,h,n,r,i,rfl,Gx,gn,gh,gk,nn,np,fun H2 s2=>?_⟩
   have Q0:=Gx.same s2
   refine ⟨x,C,dx,_,_,rfl,Q0.ob,TC.cl,TC.nK,rW _ _ _ _,?_⟩
   obtain ⟨kvs,ek,pk⟩:=Q0.kp
   have lk:=pk.length
   refine ⟨ak,kvs,rfl,ek,?_⟩
   refine fP (fun z=>by have z':=of_decide_eq_true z; omega) (fun _=>?_)
   refine ⟨x,C,dx,_,_,rfl,Q0.ob,TC.cl,TC.nK,rW _ _ _ _,?_⟩
   refine ⟨ak,kvs,rfl,.inl ek,fun d hd=>?_⟩
   have s3:Same H2 (upd H2 d (.dK kvs)):=(Same.refl H2).upd hd
   have e3:upd H2 d (.dK kvs) d=some (.dK kvs):=ao
   generalize Vr:upd H2 d (.dK kvs)=H3 at s3 e3 ⊢
   clear Vr
   refine ⟨by show 3<=sizeLine; omega,fun T0 hT=>?_⟩
   have s4:Same H3 (upd H3 T0 (.tup [.str h,.int r,.int i])):=(Same.refl H3).upd hT
   have e4:upd H3 T0 (.tup [.str h,.int r,.int i]) T0=some (.tup [.str h,.int r,.int i]):=ao
   generalize Dy:upd H3 T0 (.tup [.str h,.int r,.int i])=H4 at s4 e4 ⊢
   clear Dy
   refine ⟨d,_,rfl,qX.k (k:=Sum.inr n) (s4 _ _ e3) (by omega),?_⟩
   have fd2:H2 d=none:=hd
   have S24:Same H2 H4:=s3.trans s4
   have s5:Same H2 (upd H4 d (.dK (putK kvs (.inr n) (.ref T0)))):=fun b u e=>by rw [aB (aH e hd)]; exact S24 _ _ e
   have e5:upd H4 d (.dK (putK kvs (.inr n) (.ref T0))) d=some (.dK (putK kvs (.inr n) (.ref T0))):=ao
   have nTd:T0≠d:=fun z=>by rw [z,e3] at hT; cases hT
   have eT5:upd H4 d (.dK (putK kvs (.inr n) (.ref T0))) T0=some (.tup [.str h,.int r,.int i]):=by rw [aB nTd]; exact e4
   generalize Gs:upd H4 d (.dK (putK kvs (.inr n) (.ref T0)))=H5 at s5 e5 eT5 ⊢
   clear Gs
   have kl5:jY H5 d (kt++[(n,h,r,i)]):=⟨_,e5,DN pk nn s5.tups eT5⟩
   have Ly:=Q0.same s5
   refine ⟨x,C,dx,_,_,rfl,Ly.ob,TC.cl,TC.nL,wO _ _ _ _,?_⟩
   obtain ⟨yc,el,pl⟩:=Ly.lt
   have ll:=pl.length
   have fl:=Ly.fl
   refine ⟨al,yc,rfl,el,fun o D fD=>?_⟩
   have oth:∀ b,b≠al->upd H5 al (.iQ o (.dT yc)) b=H5 b:=fun b n=>aB n
   have ef:upd H5 al (.iQ o (.dT yc)) al=some (.iQ o (.dT yc)):=ao
   generalize Vn:upd H5 al (.iQ o (.dT yc))=H6 at oth ef fD ⊢
   clear Vn
   have nla:∀ b u,H5 b=some u->(∀ k,u≠.dT k)->b≠al:=fun b u e n z=>by rw [z,el] at e; exact n _ (Option.some.inj e).symm
   have t56:bV H5 H6:=fun b xs e=>by rw [oth b (nla b _ e (fun k z=>by cases z))]; exact e
   have kl6:Bl H6 d (ktM (kt++[(n,h,r,i)])):=by
     obtain ⟨kk,ekk,BR⟩:=kl5
     exact jY.at ⟨kk,by rw [oth d (nla d _ ekk (fun k z=>by cases z))]; exact ekk,aA (fun _ _ y=>j7.ts y t56) BR⟩
   refine Gf (fun j H'=>dU H6 H' D (((ls.take j).map fun l=>dJ (ktM (kt++[(n,h,r,i)])) l.1.1 l.1.2).map V.bl)) (dU.start fD) (fun j H' _ G=>G.same _ _ ef) (fun H7 G=>?_) (fun j k v b' H7 hj eb hi G bb=>?_)
   . rw [ll,List.take_length] at G
     have ahm:(ls.map fun l=>dJ (ktM (kt++[(n,h,r,i)])) l.1.1 l.1.2).any id=false:=by
       rw [List.any_map,List.any_eq_false]
       intro l hl z
       have z':dJ (ktM (kt++[(n,h,r,i)])) l.1.1 l.1.2=true:=z
       rw [wi l hl] at z'
       cases z'
     have eal:H al=some (.dT yc):=by
       obtain ⟨k0,e0,_⟩:=kp.lt
       have z:=((s1.trans s2).trans s5) _ _ e0
       rw [el] at z
       cases z
       exact e0
     refine ⟨D,_,rfl,cT.of G.at',_,⟨al,o,.dT yc,G.same _ _ ef,True.intro,Y0 eal,rfl⟩,?_⟩
     rw [ahm]
     have s7:Same H5 (upd H7 al (.dT yc)):=zE el oth fun b u _ e=>G.same _ _ e
     generalize Y8:upd H7 al (.dT yc)=H8 at s7 ⊢
     clear Y8
     have MN:=Ly.same s7
     have kl8:=kl5.same s7
     refine ⟨x,C,dx,_,_,rfl,MN.ob,TC.cl,TC.nE,Bq _ _ _ _,?_⟩
     obtain ⟨Sv,ee,le,fe⟩:=MN.en
     refine ⟨ae,_,rfl,eU.k (k:=Sum.inr h) ee,_,rfl,?_⟩
     -- what is told in the end
     have fin:∀ H9,Same H8 H9->Q (.str "kept") (upd H9 x (.ins C dx (gJ "kept" (.ref d) (yt ch ak al ae)))):=fun H9 s9=>by
       have kp9:=MN.same s9
       have kl9:=kl8.same s9
       have nx:∀ b u,H9 b=some u->(∀ a b c,u≠.ins a b c)->b≠x:=fun b u e n z=>by rw [z,kp9.ob] at e; exact n _ _ _ (Option.some.inj e).symm
       have sx:∀ b u,b≠x->H9 b=some u->upd H9 x (.ins C dx (gJ "kept" (.ref d) (yt ch ak al ae))) b=some u:=fun b u n e=>by rw [aB n]; exact e
       have tx:bV H9 (upd H9 x (.ins C dx (gJ "kept" (.ref d) (yt ch ak al ae)))):=fun b xs e=>sx _ _ (nx b _ e (fun _ _ _ z=>by cases z)) e
       have fd0:H d=none:=(s1.trans s2).free fd2
       refine q d _ fd0 ⟨by rw [ao,QX],kp9.ck.ts tx,?_,?_,?_,?_,?_,kp.nl,by rw [List.length_append]; show kt.length+1<=24; omega,kp.fl,kp.f6⟩ fun b u n e=>sx _ _ n ((((s1.trans s2).trans s5).trans s7).trans s9 _ _ e)
       . obtain ⟨kk,ekk,BR⟩:=kl9
         exact ⟨kk,sx _ _ (nx d _ ekk (fun _ _ _ z=>by cases z)) ekk,aA (fun _ _ y=>j7.ts y tx) BR⟩
       . obtain ⟨kk,ekk,BR⟩:=kp9.lt
         exact ⟨kk,sx _ _ (nx al _ ekk (fun _ _ _ z=>by cases z)) ekk,aA (fun _ _ y=>wM.ts y tx) BR⟩
       . obtain ⟨kk,ekk,lkk,WL⟩:=kp9.en
         exact ⟨kk,sx _ _ (nx ae _ ekk (fun _ _ _ z=>by cases z)) ekk,lkk,fun k v hv=>let ⟨b,r,e1,e2⟩:=WL k v hv; ⟨b,r,e1,tx _ _ e2⟩⟩
       . intro z
         obtain ⟨kk,ekk,_⟩:=kp.en
         rw [<- z,fd0] at ekk
         cases ekk
       . rw [List.map_append]
         exact List.nodup_append.mpr ⟨kp.nd,by simp,fun a ha b hb z=>nn (by rw [List.map_singleton,List.mem_singleton] at hb; have hb':b=n:=hb; rw [<- hb',<- z]; exact ha)⟩
     cases ve:cj Sv (Sum.inr h:Key) with
     | none =>
       refine XQ ?_
       refine XQ ?_
       exact ⟨x,C,dx,_,rfl,MN.ob,TC.cl,TC.nK,by show 4<1000; decide,fin H8 (Same.refl _)⟩
     | some v =>
       refine afg ?_
       obtain ⟨b,e0,rfl,eb⟩:=fe _ _ ve
       refine ⟨by show 2<=sizeLine; omega,fun p hp=>?_⟩
       have s9:Same H8 (upd H8 p (.tup [.int r,.int i])):=(Same.refl H8).upd hp
       have e9:upd H8 p (.tup [.int r,.int i]) p=some (.tup [.int r,.int i]):=ao
       generalize hH9:upd H8 p (.tup [.int r,.int i])=H9 at s9 e9 ⊢
       clear hH9
       refine ⟨x,C,dx,_,_,rfl,s9 _ _ MN.ob,TC.cl,TC.nE,Bq _ _ _ _,?_⟩
       refine ⟨ae,.ref b,rfl,by have z:=eU.k (k:=Sum.inr h) (s9 _ _ ee); rw [ve] at z; exact z,?_⟩
       refine ⟨p,b,[r,i],[0,e0],rfl,rfl,bW.of e9,bW.of (s9 _ _ eb),?_⟩
       rw [Vz r1]
       exact ⟨x,C,dx,_,rfl,s9 _ _ MN.ob,TC.cl,TC.nK,by show 4<1000; decide,fin H9 s9⟩
   . obtain ⟨l,hl,hk,_⟩:=bw pl hj
     obtain rfl:k=kP l.1:=hk
     refine ⟨b',_,rfl,bW.of eb,rfl,_,_,rfl,_,_,rfl,rfl,?_⟩
     have klj:Bl H7 d (ktM (kt++[(n,h,r,i)])):=by
       obtain ⟨kk,ekk,WL⟩:=kl6
       exact ⟨kk,G.same _ _ ekk,fun m=>⟨(WL m).1,fun p hp=>let ⟨b,v,g⟩:=(WL m).2 p hp; ⟨b,v,G.same _ _ g⟩⟩⟩
     refine ⟨d,_,l.1.1,l.1.2,rfl,klj,?_⟩
     refine ⟨_,G.at',by rw [List.length_map,List.length_map,List.length_take]; omega,nx hi ?_⟩
     have z:=G.put fD (.bl (dJ (ktM (kt++[(n,h,r,i)])) l.1.1 l.1.2))
     rw [List.take_add_one,hl]
     simpa using z
end
end jQ
namespace jQ
open PySem L2 fW
def oA (C:Addr):Sp:=fun vs H Q _=>∃ (x dx:Addr) (ch:V) (ak al ae:Addr) (hs:List aJ) (kt:List bH) (ls:List Letter) (l:Letter),vs=[.ref x,.str l.1.1,.str l.1.2,.int l.2.1,gD l.2.2]/\mH C H x dx ch ak al ae hs kt ls/\Good l.1.1/\Good l.1.2/\jU (mZ l)=true/\l.1.1≠l.1.2/\l.1 ∉ ls.map Prod.fst/\dJ (ktM kt) l.1.1 l.1.2=false/\ls.length<24 /\
 ∀ (H':Hp),mH C H' x dx ch ak al ae hs kt (ls++[l])->aZ al H H'->Q .non H'
def GD (C:Addr):Sp:=fun vs H Q _=>∃ (x dx:Addr) (ch:V) (ak al ae:Addr) (hs:List aJ) (kt:List bH) (ls:List Letter) (i:Int),vs=[.ref x,.str (h0 hs),.int 0,.int i]/\mH C H x dx ch ak al ae hs kt ls/\h0 hs∈hs.map aJ.name/\∀ (H':Hp),mH C H' x dx ch ak al ae hs kt ls->aZ ae H H'->Q .non H'
def lD (C:Addr):Sp:=fun vs H Q _=>∃ (x dx:Addr) (ch:V) (ak al ae:Addr) (hs:List aJ) (kt:List bH) (ls:List Letter),vs=[.ref x]/\mH C H x dx ch ak al ae hs kt ls/\∀ (v:V) (hs':List aJ) (ls':List Letter) (H':Hp),dD H' v hs' ls'->Paired (pJ kt) hs hs'->qJ kt ls ls'->Same H H'->Q v H'
theorem GF {H:Hp} {k:Str × Str}:∀ {kvs:List (List Key × V)} {ls:List Letter},Paired (wM H) kvs ls->k ∉ ls.map Prod.fst->cj kvs (kP k)=none
 | _,_,.nil,_=>rfl
 | kv :: _,l :: _,.cons h t,hk=>by
   rw [List.map_cons,List.mem_cons,not_or] at hk
   rw [cD (by rw [h.1]; exact fun y=>hk.1 (vD y).symm)]
   exact GF t hk.2
section
variable {P:Program} {w:World} {K:PySem.W.Frag} {mg:Str->Option Value} {base:Heap} {t8 t6 tR tL t9:Tok} {C:Addr}
theorem GJ:bf ["self"] ["self"] (aD jw):=⟨rfl,rfl,rfl,by decide +kernel,rfl,by decide +kernel,by decide +kernel⟩
theorem GK {f sE:Addr} {fd wY:FuncData} (F:mK K "ledger" "Keeper.ledger" jw f fd) (TC:KCls K mg C t9)
   (Lz:aO P w K mg base cg 2 sE wY ["houses","rows","letters"] rR) (LC:mg "put_down" = some (.ref sE)) (LK:PySem.W.keepIn K (.ref sE)=true) (LQ:Binds K wY ["houses","rows","letters"] []):aO P w K mg base cg 3 f fd ["self"] (lD C):=by
 refine F.ok GJ (fun vs H Q E h=>?_) (fun cdv A outer s H vs Q E hr h=>?_)
 . obtain ⟨x,dx,ch,ak,al,ae,hs,kt,ls,rfl,_⟩:=h
   rfl
 . obtain ⟨x,dx,ch,ak,al,ae,hs,kt,ls,rfl,kp,q⟩:=h
   refine ⟨_,(aG (bh (aM Lz hr rfl LC LK LQ .nil aP (aj (eX (pV 0) rfl) (aj (eX (pV 0) rfl) (aj (eX (pV 0) rfl) aq)))))),?_⟩
   refine ⟨x,C,dx,_,_,rfl,kp.ob,TC.cl,TC.nH,QW _ _ _ _,x,C,dx,_,_,rfl,kp.ob,TC.cl,TC.nK,rW _ _ _ _,x,C,dx,_,_,rfl,kp.ob,TC.cl,TC.nL,wO _ _ _ _,?_⟩
   have fk:=kp.fk
   have fl:=kp.fl
   exact ⟨ch,ak,al,hs,kt,ls,rfl,kp.ck,kp.f6,kp.kp,by omega,kp.nd,kp.lt,by omega,kp.nl,q⟩
theorem GP:bf ["self","sent","taken","least","most"] ["self","sent","taken","least","most"] (aD ju):=⟨rfl,rfl,rfl,by decide +kernel,rfl,by decide +kernel,by decide +kernel⟩
theorem GQ {f wZ jK:Addr} {fd zH lC:FuncData} (F:mK K "letter" "Keeper.letter" ju f fd) (T:Txt mg t8 t6 tR tL) (TC:KCls K mg C t9)
   (Q5:aO P w K mg base cg 2 wZ zH ["thing"] (spD jU)) (Q6:mg "is_letter" = some (.ref wZ)) (Q7:PySem.W.keepIn K (.ref wZ)=true) (Q8:Binds K zH ["thing"] [])
   (wU:aO P w K mg base cg 2 jK lC ["rows","sent","taken"] qG) (wV:mg "is_within_a_house" = some (.ref jK)) (wW:PySem.W.keepIn K (.ref jK)=true) (wX:Binds K lC ["rows","sent","taken"] []):aO P w K mg base cg 3 f fd ["self","sent","taken","least","most"] (oA C):=by
 refine F.ok GP (fun vs H Q E h=>?_) (fun cdv A outer s H vs Q E hr h=>?_)
 . obtain ⟨x,dx,ch,ak,al,ae,hs,kt,ls,l,rfl,_⟩:=h
   rfl
 . obtain ⟨x,dx,ch,ak,al,ae,hs,kt,ls,l,rfl,kp,g1,g2,gl,ne,nk,nw,l24,q⟩:=h
   have mC:sizeLine=16777216:=sizeLine_eq
   refine ⟨_,(au (cC (uq (dH (xW (aM Q5 hr rfl Q6 Q7 Q8 .nil aP (aj (bK (aj (pV 1) (aj (pV 2) (aj (pV 3) (aj (pV 4) aq))))) aq)))) (pw_or1 (qt Cg (pV 1) (pV 2) (bB _)))) (aG (dZ)) aW) (au (cC (uq (lK (lO (cU hr) (bK (aj (pV 1) (aj (pV 2) aq))) (eX (pV 0) rfl))) (pw_or1 (xW (aM wU hr rfl wV wW wX .nil aP (aj (eX (pV 0) rfl) (aj (pV 1) (aj (pV 2) aq))))))) (aG (dZ)) aW) (au (cC (qt oGe (aN Lq rfl T.len PySem.boot_len (aj (eX (pV 0) rfl) aq)) (pZ (v:=.int 24) rfl T.abx ⟨_,rfl⟩) (bB _)) (aG (dZ)) aW) (aG (lQ (cU hr) (eX (pV 0) rfl) (bK (aj (pV 1) (aj (pV 2) aq))) (bK (aj (pV 3) (aj (pV 4) aq))) rfl))))),?_⟩
   refine ⟨by show 4<=sizeLine; omega,fun p hp=>?_⟩
   have s1:Same H (upd H p (.tup [.str l.1.1,.str l.1.2,.int l.2.1,gD l.2.2])):=(Same.refl H).upd hp
   have e1:upd H p (.tup [.str l.1.1,.str l.1.2,.int l.2.1,gD l.2.2]) p=some (.tup [.str l.1.1,.str l.1.2,.int l.2.1,gD l.2.2]):=ao
   generalize hH1:upd H p (.tup [.str l.1.1,.str l.1.2,.int l.2.1,gD l.2.2])=H1 at s1 e1 ⊢
   clear hH1
   have dm:eV H1 (gD l.2.2) (Ax l.2.2):=by
     cases l.2.2 with
     | none=>exact .non
     | some m=>exact .int m
   refine ⟨.ref p,mZ l,rfl,.tup e1 (by show 4<=25; decide) (.cons g1.da (.cons g2.da (.cons (.int _) (.cons dm .nil)))),fun H2 s2=>?_⟩
   rw [gl]
   refine ⟨rfl,?_⟩
   rw [decide_eq_false (fun z=>ne (V.str.inj z):¬ V.str l.1.1=V.str l.1.2)]
   refine ⟨by show 2<=sizeLine; omega,fun p3 hp3=>?_⟩
   have s3:Same H2 (upd H2 p3 (.tup [.str l.1.1,.str l.1.2])):=(Same.refl H2).upd hp3
   have e3:upd H2 p3 (.tup [.str l.1.1,.str l.1.2]) p3=some (.tup [.str l.1.1,.str l.1.2]):=ao
   generalize Vr:upd H2 p3 (.tup [.str l.1.1,.str l.1.2])=H3 at s3 e3 ⊢
   clear Vr
   have S3:=(s1.trans s2).trans s3
   have yu:=kp.same S3
   refine ⟨x,C,dx,_,_,rfl,yu.ob,TC.cl,TC.nL,wO _ _ _ _,?_⟩
   obtain ⟨yc,el,pl⟩:=yu.lt
   have ll:=pl.length
   refine ⟨al,_,rfl,eU.t (k:=kP l.1) el e3,_,rfl,?_⟩
   rw [GF pl nk]
   refine ⟨x,C,dx,_,_,rfl,yu.ob,TC.cl,TC.nK,rW _ _ _ _,?_⟩
   refine ⟨ak,_,l.1.1,l.1.2,rfl,yu.kp.at,?_⟩
   rw [nw]
   refine ⟨x,C,dx,_,_,rfl,yu.ob,TC.cl,TC.nL,wO _ _ _ _,?_⟩
   refine ⟨al,yc,rfl,el,?_⟩
   refine fP (fun z=>by have z':=of_decide_eq_true z; omega) (fun _=>?_)
   refine ⟨by show 2<=sizeLine; omega,fun p4 hp4=>?_⟩
   have s4:Same H3 (upd H3 p4 (.tup [.int l.2.1,gD l.2.2])):=(Same.refl H3).upd hp4
   have e4:upd H3 p4 (.tup [.int l.2.1,gD l.2.2]) p4=some (.tup [.int l.2.1,gD l.2.2]):=ao
   generalize Dy:upd H3 p4 (.tup [.int l.2.1,gD l.2.2])=H4 at s4 e4 ⊢
   clear Dy
   refine ⟨x,C,dx,_,_,rfl,s4 _ _ yu.ob,TC.cl,TC.nL,wO _ _ _ _,?_⟩
   refine ⟨by show 2<=sizeLine; omega,fun p5 Sw=>?_⟩
   have s5:Same H4 (upd H4 p5 (.tup [.str l.1.1,.str l.1.2])):=(Same.refl H4).upd Sw
   have e5:upd H4 p5 (.tup [.str l.1.1,.str l.1.2]) p5=some (.tup [.str l.1.1,.str l.1.2]):=ao
   generalize Gs:upd H4 p5 (.tup [.str l.1.1,.str l.1.2])=H5 at s5 e5 ⊢
   clear Gs
   have SM:=s4.trans s5
   have S5:=S3.trans SM
   refine ⟨al,_,rfl,qX.t (k:=kP l.1) (SM _ _ el) e5 (by omega),?_⟩
   have Ly:=yu.same SM
   have el5:=SM _ _ el
   have na:∀ b u,H5 b=some u->(∀ k,u≠.dT k)->b≠al:=fun b u e n z=>by rw [z,el5] at e; exact n _ (Option.some.inj e).symm
   have sx:∀ b u,b≠al->H5 b=some u->upd H5 al (.dT (putK yc (kP l.1) (.ref p4))) b=some u:=fun b u n e=>by rw [aB n]; exact e
   have tx:bV H5 (upd H5 al (.dT (putK yc (kP l.1) (.ref p4)))):=fun b xs e=>sx _ _ (na b _ e (fun _ z=>by cases z)) e
   refine q _ ⟨sx _ _ (na x _ Ly.ob (fun _ z=>by cases z)) Ly.ob,Ly.ck.ts tx,?_,?_,?_,kp.ne,kp.nd,?_,kp.fk,by rw [List.length_append]; show ls.length+1<=24; omega,kp.f6⟩ fun b u n e=>sx _ _ n (S5 _ _ e)
   . obtain ⟨kk,ekk,BR⟩:=Ly.kp
     exact ⟨kk,sx _ _ (na ak _ ekk (fun _ z=>by cases z)) ekk,aA (fun _ _ y=>j7.ts y tx) BR⟩
   . refine ⟨_,ao,?_⟩
     have z:(yc.any fun kv=>decide (kv.1=kP l.1))=false:=by rw [iU,GF pl nk]; rfl
     have ep:putK yc (kP l.1) (.ref p4)=yc++[(kP l.1,.ref p4)]:=by unfold putK; rw [z,if_neg Bool.false_ne_true]
     rw [ep] at tx ⊢
     exact aY (aA (fun _ _ y=>wM.ts y (SM.tups.trans tx)) pl) (.cons ⟨rfl,p4,rfl,tx _ _ (s5 _ _ e4)⟩ .nil)
   . obtain ⟨kk,ekk,lkk,WL⟩:=Ly.en
     exact ⟨kk,sx _ _ (na ae _ ekk (fun _ z=>by cases z)) ekk,lkk,fun k v hv=>let ⟨b,r,e1,e2⟩:=WL k v hv; ⟨b,r,e1,tx _ _ e2⟩⟩
   . rw [List.map_append]
     exact List.nodup_append.mpr ⟨kp.nl,by simp,fun a ha b hb z=>nk (by rw [List.map_singleton,List.mem_singleton] at hb; rw [<- hb,<- z]; exact ha)⟩
theorem VD:bf ["self","house","run","reading"] ["self","house","run","reading"] (aD rU):=⟨rfl,rfl,rfl,by decide +kernel,rfl,by decide +kernel,by decide +kernel⟩
theorem VF {f cQ lB:Addr} {fd dG jL:FuncData} (F:mK K "done" "Keeper.done" rU f fd) (T:Txt mg t8 t6 tR tL) (TC:KCls K mg C t9)
   (iI:aO P w K mg base cg 2 cQ dG ["thing"] (lV K)) (iJ:mg "is_whole" = some (.ref cQ)) (k_whole:PySem.W.keepIn K (.ref cQ)=true) (iK:Binds K dG ["thing"] [])
   (rZ:aO P w K mg base cg 2 lB jL ["self","house","run"] (ou C)) (su:Meth K C "need_run" lB) (sy:Binds K jL ["self","house","run"] []):aO P w K mg base cg 3 f fd ["self","house","run","reading"] (GD C):=by
 refine F.ok VD (fun vs H Q E h=>?_) (fun cdv A outer s H vs Q E hr h=>?_)
 . obtain ⟨x,dx,ch,ak,al,ae,hs,kt,ls,i,rfl,_⟩:=h
   rfl
 . obtain ⟨x,dx,ch,ak,al,ae,hs,kt,ls,i,rfl,kp,mh,q⟩:=h
   have mC:sizeLine=16777216:=sizeLine_eq
   refine ⟨_,(au (fM (jl (pV 0) TC.cl su rZ hr sy .nil aP (aj (pV 1) (aj (pV 2) aq)))) (au (cC (dH (xW (aM iI hr rfl iJ k_whole iK .nil aP (aj (pV 3) aq)))) (aG (dZ)) aW) (aG (lQ (cU hr) (eX (pV 0) rfl) (pV 1) (aN (Lh rfl (cU hr)) rfl T.max PyProof.Rows.boot_max (aj (bK (aj (pV 2) (aj (pV 3) aq))) (aj (NQ (cU hr) (eX (pV 0) rfl) (pV 1) (bK (aj (pV 2) (aj (pV 3) aq))) ⟨rfl,rfl,rfl,rfl⟩) aq))) rfl)))),?_⟩
   refine ⟨x,dx,_,rfl,kp.ob,by rfl,?_⟩
   refine ⟨x,dx,ch,ak,al,ae,hs,kt,ls,h0 hs,0,rfl,kp,mh,by decide,by decide,fun H1 s1=>?_⟩
   have Gx:=kp.same s1
   refine ⟨_,rfl,qZ,?_⟩
   refine ⟨by show 2<=sizeLine; omega,fun p2 hp2=>?_⟩
   have s2:Same H1 (upd H1 p2 (.tup [.int 0,.int i])):=(Same.refl H1).upd hp2
   have e2:upd H1 p2 (.tup [.int 0,.int i]) p2=some (.tup [.int 0,.int i]):=ao
   generalize hH2:upd H1 p2 (.tup [.int 0,.int i])=H2 at s2 e2 ⊢
   clear hH2
   have Q0:=Gx.same s2
   refine ⟨x,C,dx,_,_,rfl,Q0.ob,TC.cl,TC.nE,Bq _ _ _ _,?_⟩
   obtain ⟨Sv,ee,le,fe⟩:=Q0.en
   refine ⟨ae,rfl,.inl ⟨_,.inl ee⟩,?_⟩
   refine ⟨by show 2<=sizeLine; omega,fun p3 hp3=>?_⟩
   have s3:Same H2 (upd H2 p3 (.tup [.int 0,.int i])):=(Same.refl H2).upd hp3
   have e3:upd H2 p3 (.tup [.int 0,.int i]) p3=some (.tup [.int 0,.int i]):=ao
   generalize Vr:upd H2 p3 (.tup [.int 0,.int i])=H3 at s3 e3 ⊢
   clear Vr
   have ee3:=s3 _ _ ee
   refine ⟨_,eU.k (k:=Sum.inr (h0 hs)) ee3,?_⟩
   -- what is there,or the pair itself
   obtain ⟨b,j,eb0,eb⟩:∃ b j,(cj Sv (Sum.inr (h0 hs):Key)).getD (.ref p3)=.ref b/\H3 b=some (.tup [.int 0,.int j]):=by
     cases ve:cj Sv (Sum.inr (h0 hs):Key) with
     | none=>exact ⟨p3,i,rfl,e3⟩
     | some v =>
       obtain ⟨b,j,rfl,g⟩:=fe _ _ ve
       exact ⟨b,j,rfl,s3 _ _ g⟩
   rw [eb0]
   refine ⟨p2,b,[0,i],[0,j],rfl,s3 _ _ e2,eb,?_⟩
   have yu:=Q0.same s3
   refine ⟨x,C,dx,_,_,rfl,yu.ob,TC.cl,TC.nE,Bq _ _ _ _,?_⟩
   have l1:=le.1
   refine ⟨ae,_,rfl,qX.k (k:=Sum.inr (h0 hs)) ee3 (by omega),?_⟩
   obtain ⟨c,jj,ec⟩:∃ c jj,(if HT.ji [0,j] [0,i]=true then b else p2)=c/\H3 c=some (.tup [.int 0,.int jj]):=by
     by_cases z:HT.ji [0,j] [0,i]=true
     . exact ⟨b,j,if_pos z,eb⟩
     . exact ⟨p2,i,if_neg z,s3 _ _ e2⟩
   rw [ec.1]
   have na:∀ b' u,H3 b'=some u->(∀ k,u≠.dK k)->b'≠ae:=fun b' u e n z=>by rw [z,ee3] at e; exact n _ (Option.some.inj e).symm
   have sx:∀ b' u,b'≠ae->H3 b'=some u->upd H3 ae (.dK (putK Sv (Sum.inr (h0 hs)) (.ref c))) b'=some u:=fun b' u n e=>by rw [aB n]; exact e
   have tx:bV H3 (upd H3 ae (.dK (putK Sv (Sum.inr (h0 hs)) (.ref c)))):=fun b' xs e=>sx _ _ (na b' _ e (fun _ z=>by cases z)) e
   refine q _ ⟨sx _ _ (na x _ yu.ob (fun _ z=>by cases z)) yu.ob,yu.ck.ts tx,?_,?_,?_,kp.ne,kp.nd,kp.nl,kp.fk,kp.fl,kp.f6⟩ fun b' u n e=>sx _ _ n (((s1.trans s2).trans s3) _ _ e)
   . obtain ⟨kk,ekk,BR⟩:=yu.kp
     exact ⟨kk,sx _ _ kp.ne ekk,aA (fun _ _ y=>j7.ts y tx) BR⟩
   . obtain ⟨kk,ekk,BR⟩:=yu.lt
     exact ⟨kk,sx _ _ (na al _ ekk (fun _ z=>by cases z)) ekk,aA (fun _ _ y=>wM.ts y tx) BR⟩
   . have ep:putK Sv (Sum.inr (h0 hs):Key) (.ref c)=[(Sum.inr (h0 hs),.ref c)]:=by
       obtain ⟨la,lb⟩:=le
       cases Sv with
       | nil=>rfl
       | cons kv r =>
         cases r with
         | nil =>
           have z:=lb kv List.mem_cons_self
           obtain ⟨k,v⟩:=kv
           cases (show k=Sum.inr (h0 hs) from z)
           simp [putK]
         | cons _ _=>simp at la
     rw [ep] at tx ⊢
     refine ⟨_,ao,⟨Nat.le_refl _,fun kv hv=>by rw [List.mem_singleton.mp hv]⟩,fun k v hv=>?_⟩
     by_cases z:k=Sum.inr (h0 hs)
     . rw [cL z.symm] at hv
       cases hv
       exact ⟨c,jj,rfl,tx _ _ ec.2⟩
     . rw [cD (fun y=>z y.symm)] at hv
       cases hv
end
end jQ
namespace jQ
open PySem L2 fW
section
variable {H1:Hp} {D:Addr} {σ0:St} {g:BI->TG} {te:BI->TE} {tt:BI->TT} {End:Hp->Prop} {α β:Type}
theorem LR {R:Key × V->α->Prop} {R':Hp->V->β->Prop} {F:α->β->Prop} {keep:α->Bool} {a:Addr} {o:Obj} {kvs:List (Key × V)} {bs:List α} (mono:∀ {H H':Hp} {v b},Same H H'->R' H v b->R' H' v b) (tQ:∀ {H:Hp} {o:HO} {v b},(∃ zs,H D=some (.lst zs))->R' H v b->R' (upd H D o) v b)
   (hD:H1 D=none) (hT:H1 a=some (.iQ o (.dK kvs))) (few:kvs.length<=1000) (pr:Paired R kvs bs)
   (turn:∀ (i:Nat) (kv:Key × V) (c:α) (H':Hp),bs[i]?=some c->R kv c->Same H1 H'->∀ b (N:Hp->Prop) (Q:VK),(keep c=false->∀ gK,Same H' gK->N gK)->(keep c=true->∀ v gK y,Same H' gK->R' gK v y->F c y->Q v gK)->g b (kV kv.1) σ0 H' fun σ2 H2=>tt b σ2 H2 fun cc H3=>if cc=true then te b σ2 H3 Q else N H3)
   (fin:∀ vs ys H',Same H1 H'->H' D=some (.lst vs)->Paired (R' H') vs ys->Paired F (bs.filter keep) ys->End H') :
   ∃ W:Nat->Nat->Hp->Prop,(∃ m,W 0 m (upd H1 D (.lst [])))/\∀ b,jE (Itd a o kvs) (g b) (tt b) (jP D (te b)) σ0 End W :=
 Ky (kvs:=kvs) (fun i H'=>∃ zs ys,dU H1 H' D zs/\zs.length<=i/\Paired (R' H') zs ys/\Paired F ((bs.take i).filter keep) ys) ⟨[],[],dU.start hD,Nat.zero_le _,.nil,.nil⟩ (fun i H' _ hz=>by obtain ⟨_,_,G,_⟩:=hz; exact G.same _ _ hT) (fun H' hz=>by
   obtain ⟨zs,ys,G,_,pz,pf⟩:=hz
   rw [pr.length,List.take_length] at pf
   exact fin zs ys H' G.same G.at' pz pf) (fun i k x H' hx hi hz b=>by
   have mC:sizeLine=16777216:=sizeLine_eq
   obtain ⟨zs,ys,G,lz,pz,pf⟩:=hz
   obtain ⟨c,hc,rc⟩:=bw pr hx
   refine turn i (k,x) c H' hc rc G.same b _ _ (fun kk gK s=>nx hi ⟨zs,ys,G.more s,by omega,aA (fun _ _ z=>mono s z) pz,by rw [jX hc,kk,if_neg Bool.false_ne_true,List.append_nil]; exact pf⟩) (fun kk v gK y s r f=>?_)
   refine ⟨zs,(G.more s).at',by omega,nx hi ⟨zs++[v],ys++[y],(G.more s).put hD v,by rw [List.length_append]; simp; omega,?_,by rw [jX hc,kk,if_pos rfl]; exact aY pf (.cons f .nil)⟩⟩
   exact aY (aA (fun _ _ z=>tQ ⟨_,(G.more s).at'⟩ (mono s z)) pz) (.cons (tQ ⟨_,(G.more s).at'⟩ r) .nil))
end
def Y9 (H:Hp) (v:V) (p:bH):Prop:=∃ b,v=.ref b/\H b=some (.tup [.str p.2.1,.int p.2.2.1,.int p.2.2.2,.str p.1])
theorem Y9.ts {H H':Hp} {v:V} {p:bH} (h:Y9 H v p) (s:bV H H'):Y9 H' v p:=let ⟨b,e,g⟩:=h; ⟨b,e,s _ _ g⟩
def Q9 (H:Hp) (v:V) (p:bH):Prop:=∃ b,v=.ref b/\H b=some (.tup [.int p.2.2.2,.str p.1])
theorem Q9.ts {H H':Hp} {v:V} {p:bH} (h:Q9 H v p) (s:bV H H'):Q9 H' v p:=let ⟨b,e,g⟩:=h; ⟨b,e,s _ _ g⟩
theorem lE {α:Type}:∀ {l m:List α},Paired (fun k k'=>k'=k) l m->m=l
 | _,_,.nil=>rfl
 | _,_,.cons h t=>by rw [lE t,h]
theorem zJ {α β:Type} {f:α->β}:∀ {l:List α} {m:List β},Paired (fun a b=>b=f a) l m->m=l.map f
 | _,_,.nil=>rfl
 | _,_,.cons h t=>by rw [zJ t,h]; rfl
theorem paired_ints:∀ {vs:List V} {ns:List Int},Paired (fun (v:V) n=>v=V.int n) vs ns->vs=ns.map V.int
 | _,_,.nil=>rfl
 | _,_,.cons h t=>by rw [paired_ints t,h]; rfl
theorem Ju {H:Hp}:∀ {vs:List V} {ps:List bH},Paired (Q9 H) vs ps->∃ ts:List (Addr × (Int × Str)),vs=(ts.map (·.1)).map V.ref/\(∀ t∈ts,H t.1=some (.tup [.int t.2.1,.str t.2.2]))/\ts.map (·.2)=ps.map wK
 | _,_,.nil=>⟨[],rfl,fun _ h=>(by cases h),rfl⟩
 | _,p :: _,.cons h t=>by
   obtain ⟨ts,e,g,m⟩:=Ju t
   obtain ⟨b,rfl,eb⟩:=h
   refine ⟨(b,wK p) :: ts,by rw [e]; rfl,fun t ht=>?_,by rw [List.map_cons,m]; rfl⟩
   rcases List.mem_cons.mp ht with rfl | ht
   . exact eb
   . exact g t ht
theorem Ma (p:Nat->Bool):((bR p).map (fun n:Nat=>(n:Int))).Pairwise (·<·):=by
 rw [iw]
 generalize p 1=b1
 generalize p 3=b3
 generalize p 5=b5
 cases b1 <;> cases b3 <;> cases b5 <;> decide
theorem Ra {ks:List Int} (h:∀ k∈ks,k=1∨k=3∨k=5) (n:Int):n∈(bR (xP ks ks.length)).map (fun n:Nat=>(n:Int))↔n∈ks:=by
 unfold bR xP
 rw [List.take_length]
 constructor
 . intro z
   obtain ⟨m,hm,rfl⟩:=List.mem_map.mp z
   exact of_decide_eq_true (List.mem_filter.mp hm).2
 . intro z
   rcases h n z with rfl | rfl | rfl
   . exact List.mem_map.mpr ⟨1,List.mem_filter.mpr ⟨by decide,decide_eq_true z⟩,rfl⟩
   . exact List.mem_map.mpr ⟨3,List.mem_filter.mpr ⟨by decide,decide_eq_true z⟩,rfl⟩
   . exact List.mem_map.mpr ⟨5,List.mem_filter.mpr ⟨by decide,decide_eq_true z⟩,rfl⟩
theorem Rb {p:bH}:∀ {l:List bH},(l.map (·.1)).Nodup->p∈l->ktM l p.1=some p.2
 | [],_,h=>by cases h
 | x :: l,nd,h=>by
   rw [List.map_cons,List.nodup_cons] at nd
   rcases List.mem_cons.mp h with rfl | h
   . simp [ktM]
   . have ne:¬ x.1=p.1:=fun z=>nd.1 (by rw [z]; exact List.mem_map.mpr ⟨p,h,rfl⟩)
     have:=Rb nd.2 h
     simp only [ktM] at this ⊢
     rw [List.find?_cons_of_neg (by simpa using ne)]
     exact this
def Rc (H:Hp) (v:V) (l:Letter):Prop:=∃ b1 b2 b3,v=.ref b1/\H b1=some (.tup [.ref b2,.ref b3])/\H b2=some (.tup [.str l.1.1,.str l.1.2])/\bx H (.ref b3) l
theorem Rc.ts {H H':Hp} {v:V} {l:Letter} (h:Rc H v l) (s:bV H H'):Rc H' v l:=let ⟨b1,b2,b3,e,g1,g2,g3⟩:=h; ⟨b1,b2,b3,e,s _ _ g1,s _ _ g2,g3.ts s⟩
def DP (H:Hp) (kv:List Key × V) (l:Letter):Prop:=kv.1=kP l.1/\bx H kv.2 l
theorem DP.ts {H H':Hp} {kv:List Key × V} {l:Letter} (h:DP H kv l) (s:bV H H'):DP H' kv l:=⟨h.1,h.2.ts s⟩
theorem Jv {H:Hp}:∀ {vs:List V} {ls:List Letter},Paired (Rc H) vs ls->∃ ps:List (Addr × Addr × (List Key × V)),vs=ps.map (fun p=>V.ref p.1)/\(∀ p∈ps,H p.1=some (.tup [.ref p.2.1,p.2.2.2])/\H p.2.1=some (.tup (p.2.2.1.map kV)))/\Paired (DP H) (ps.map (·.2.2)) ls
 | _,_,.nil=>⟨[],rfl,fun _ h=>(by cases h),.nil⟩
 | _,l :: _,.cons h t=>by
   obtain ⟨ps,e,g,m⟩:=Jv t
   obtain ⟨b1,b2,b3,rfl,e1,e2,e3⟩:=h
   refine ⟨(b1,b2,(kP l.1,.ref b3)) :: ps,by rw [e]; rfl,fun p hp=>?_,.cons ⟨rfl,e3⟩ m⟩
   rcases List.mem_cons.mp hp with rfl | hp
   . exact ⟨e1,e2⟩
   . exact g p hp
theorem Mf {H:Hp} {kvs:List (List Key × V)} {ls:List Letter} (p:Paired (DP H) kvs ls):kvs.map (·.1)=(ls.map Prod.fst).map kP:=by
 induction p with
 | nil=>rfl
 | cons h _ ih=>rw [List.map_cons,List.map_cons,List.map_cons,ih,h.1]
theorem DQ {H:Hp} {k:Str × Str}:∀ {kvs:List (List Key × V)} {ls:List Letter},Paired (DP H) kvs ls->k∈ls.map Prod.fst->∃ l∈ls,l.1=k/\∃ v,cj kvs (kP k)=some v/\bx H v l
 | _,_,.nil,h=>by cases h
 | kv :: _,l :: _,.cons h t,hk=>by
   obtain ⟨h1,h2⟩:=h
   by_cases z:l.1=k
   . exact ⟨l,List.mem_cons_self,z,kv.2,by rw [cL (by rw [h1,z])],h2⟩
   . rw [List.map_cons,List.mem_cons] at hk
     obtain ⟨l',m,e,b',v,g⟩:=DQ t (hk.resolve_left fun y=>z y.symm)
     exact ⟨l',List.mem_cons_of_mem _ m,e,b',by rw [cD (by rw [h1]; exact fun y=>z (vD y))]; exact v,g⟩
theorem GR (kt:List bH) (h:Str) (n:Int):(kt.filter fun p=>decide (p.2.1=h)).filter (fun p=>decide (p.2.2.1=n))=kt.filter (own h n):=by
 rw [List.filter_filter]
 congr 1
 funext p
 unfold own
 rw [Bool.and_comm]
def pP:Sp:=fun vs H Q _=>∃ (x:V) (ar ll:Addr) (hs:List aJ) (kt:List bH) (ls:List Letter) (vl:List V),vs=[x,.ref ar,.ref ll]/\jJ H x hs/\hs.length<=6/\jY H ar kt/\kt.length<=60/\(kt.map (·.1)).Nodup/\(∀ p∈kt,p.2.2.1=1∨p.2.2.1=3∨p.2.2.1=5)/\H ll=some (.lst vl)/\Paired (bx H) vl ls/\ls.length<=60/\(ls.map Prod.fst).Nodup /\
 ∀ (v:V) (hs':List aJ) (ls':List Letter) (H':Hp),dD H' v hs' ls'->Paired (pJ kt) hs hs'->qJ kt ls ls'->Same H H'->Q v H'
section
variable {P:Program} {w:World} {K:PySem.W.Frag} {mg:Str->Option Value} {base:Heap} {t8 t6 tR tL:Tok}
theorem dW:bf ["_law_clocks","_law_rows","_law_letters_here","_law_houses","_law_clock","_law_own","_law_runs","_law_number","_law_some","_law_told"] ["_law_clocks","_law_rows","_law_letters_here"] (aD dB):=⟨rfl,rfl,rfl,by decide +kernel,rfl,by decide +kernel,by decide +kernel⟩
theorem DR {f:Addr} {fd:FuncData} (F:mK K "_law_ledger_of" "_law_ledger_of" dB f fd) (T:Txt mg t8 t6 tR tL):aO P w K mg base cg 1 f fd ["_law_clocks","_law_rows","_law_letters_here"] pP:=by
 refine F.ok dW (fun vs H Q E h=>?_) (fun cdv A outer s H vs Q E hr h=>?_)
 . obtain ⟨x,ar,ll,hs,kt,ls,vl,rfl,_⟩:=h
   rfl
 . obtain ⟨x,ar,ll,hs,kt,ls,vl,rfl,⟨c,vh,rfl,ec,pc⟩,ag9,⟨kvs,ea,pk⟩,abZ,nd,ahp,eL,pL,aha,nl,q⟩:=h
   have mC:sizeLine=16777216:=sizeLine_eq
   have lc:=pc.length
   have lk:=pk.length
   refine ⟨_,(au (aR (i:=3) dW.nd rfl (Or.inl rfl) (d8 aq)) (au (fZ PassesOwn.never rfl (jh (pV 0)) (aL (i:=4) dW.nd rfl (Or.inr rfl)) (au (vg (i:=5) dW.nd rfl rfl (iH:=aD dB) (own:=["_law_name"]) (cap:=["_law_clock","_law_rows"]) (ix:=[4,1]) rfl rfl ⟨rfl,by decide +kernel,by decide +kernel,by decide +kernel,rfl,by decide +kernel⟩ (Ul (pV 1)) (fun b=>(aL (i:=0) (show (["_law_name","_law_clock","_law_rows"]:List Str).Nodup by decide +kernel) rfl (Or.inl rfl))) (fun b=>(uG (qt Cg (bI fV (fO (cU hr) (pV 2) (pV 0) (fun _ _=>rfl)) aF (fun _ _=>rfl)) (bI fV (pV 1) aF (fun _ _=>rfl)) (bB _)))) (fun b=>(bA uE (fO (cU hr) (pV 2) (pV 0) (fun _ _=>rfl)) (bK (aj (pV 0) aq))))) (au (Je (aR (i:=6) dW.nd rfl (Or.inl rfl) (d8 aq))) (au (fZ PassesOwn.never rfl (eG (aN (Bp (w0:=w) rfl rfl) rfl T.sorted PyProof.Rows.boot_sorted (aj (bJ (Lf (w0:=w) rfl rfl) rfl T.set PyProof.Rows.boot_set (aj (cB (iH:=aD dB) (own:=["_law_place"]) (cap:=[]) (ix:=[]) rfl rfl ⟨rfl,by decide +kernel,by decide +kernel,by decide +kernel,rfl,by decide +kernel⟩ (eG (pV 5)) (fun b=>(aL (i:=0) (show (["_law_place"]:List Str).Nodup by decide +kernel) rfl (Or.inl rfl))) (fun b=>cN) (fun b=>(bI fV (pV 0) aF (fun _ _=>rfl)))) aq)) aq))) (aL (i:=7) dW.nd rfl (Or.inr rfl)) (au (aR (i:=8) dW.nd rfl (Or.inl rfl) (aN (oX (K1:=YZ) (K2:=kdS)) rfl T.sorted PyProof.Rows.boot_sorted (aj (cB (iH:=aD dB) (own:=["_law_place"]) (cap:=["_law_number"]) (ix:=[7]) rfl rfl ⟨rfl,by decide +kernel,by decide +kernel,by decide +kernel,rfl,by decide +kernel⟩ (eG (pV 5)) (fun b=>(aL (i:=0) (show (["_law_place","_law_number"]:List Str).Nodup by decide +kernel) rfl (Or.inl rfl))) (fun b=>(uG (qt Cg (bI fV (pV 0) aF (fun _ _=>rfl)) (pV 1) (bB _)))) (fun b=>(iT Yh (pV 0) (Og aF) ql))) aq))) (aG (fM (qm PySem.F.plainAttrs_list PySem.F.slot_list_append PySem.F.type_list_append gB (pV 6) (aj (bJ bC rfl T.tuple PyProof.Rows.boot_tuple (aj (cB (iH:=aD dB) (own:=["_law_reading","_law_name"]) (cap:=[]) (ix:=[]) rfl rfl ⟨rfl,by decide +kernel,by decide +kernel,by decide +kernel,rfl,by decide +kernel⟩ (eG (pV 8)) (fun b=>(jg rfl (aU (aL (i:=0) (show (["_law_reading","_law_name"]:List Str).Nodup by decide +kernel) rfl (Or.inl rfl)) (aU (aL (i:=1) (show (["_law_reading","_law_name"]:List Str).Nodup by decide +kernel) rfl (Or.inl rfl)) fX)))) (fun b=>cN) (fun b=>(bK (aj (pV 1) (aj (pV 0) aq))))) aq)) aq)))))) (aG (fM (qm PySem.F.plainAttrs_list PySem.F.slot_list_append PySem.F.type_list_append gB (pV 3) (aj (bA uE (pV 4) (bK (aj (bJ bC rfl T.tuple PyProof.Rows.boot_tuple (aj (pV 6) aq)) aq))) aq)))))))) (au (aR (i:=9) dW.nd rfl (Or.inr rfl) (bJ (Dt rfl hr.units) rfl T.dict PyProof.Rows.boot_dict (aj (cB (iH:=aD dB) (own:=["_law_letter"]) (cap:=["_law_rows"]) (ix:=[1]) rfl rfl ⟨rfl,by decide +kernel,by decide +kernel,by decide +kernel,rfl,by decide +kernel⟩ (eG (pV 2)) (fun b=>(aL (i:=0) (show (["_law_letter","_law_rows"]:List Str).Nodup by decide +kernel) rfl (Or.inl rfl))) (fun b=>(uG (tG (lK (lO (cU hr) (bI fV (pV 0) aF (fun _ _=>rfl)) (pV 1))) (pw_and1 (lK (lO (cU hr) (bI fV (pV 0) aF (fun _ _=>rfl)) (pV 1))))))) (fun b=>(bK (aj (iT Yh (pV 0) ql (Og aF)) (aj (pV 0) aq))))) aq))) (aG (bh (bK (aj (bJ bC rfl T.tuple PyProof.Rows.boot_tuple (aj (pV 3) aq)) (aj (bJ bC rfl T.tuple PyProof.Rows.boot_tuple (aj (cB (iH:=aD dB) (own:=["_law_pair"]) (cap:=["_law_told"]) (ix:=[9]) rfl rfl ⟨rfl,by decide +kernel,by decide +kernel,by decide +kernel,rfl,by decide +kernel⟩ (eG (aN (qH rfl) rfl T.sorted PyProof.Rows.boot_sorted (aj (pV 9) aq))) (fun b=>(aL (i:=0) (show (["_law_pair","_law_told"]:List Str).Nodup by decide +kernel) rfl (Or.inl rfl))) (fun b=>cN) (fun b=>(fO (cU hr) (pV 1) (pV 0) (fun _ _=>rfl)))) aq)) aq)))))))),?_⟩
   refine ⟨Nat.zero_le _,fun F fF=>?_⟩
   have s1:Same H (upd H F (.lst [])):=(Same.refl H).upd fF
   have eF:upd H F (.lst []) F=some (.lst []):=ao
   generalize hH1:upd H F (.lst [])=H1 at s1 eF ⊢
   clear hH1
   refine ⟨c,rfl,⟨_,bW.of (s1 _ _ ec)⟩,uz (xs:=vh) (fun i σ H'=>∃ (ws:List V) (hs':List aJ) (o4 o5 o6 o7 o8 o9:Option V),σ=[some (.ref c),some (.ref ar),some (.ref ll),some (.ref F),o4,o5,o6,o7,o8,o9]/\H' F=some (.lst ws)/\ws.length<=i/\Paired (fY H') ws hs'/\Paired (pJ kt) (hs.take i) hs'/\Same H H') ⟨[],[],none,none,none,none,none,none,rfl,eF,Nat.zero_le _,.nil,.nil,s1⟩ (fun i σ H' _ hz=>by obtain ⟨_,_,_,_,_,_,_,_,_,_,_,_,_,s⟩:=hz; exact bW.of (s _ _ ec)) (fun i v σ H2 hv hz=>?_) (fun σ H2 hz=>?_)⟩
   . obtain ⟨ws,hs',o4,o5,o6,o7,o8,o9,rfl,Yw,lw,pw,pf,s2⟩:=hz
     obtain ⟨hh,hhi,a1,rfl,e1⟩:=bw pc hv
     have Wu:=s2 _ _ e1
     -- own
     refine ⟨ar,kvs,rfl,.inl (s2 _ _ ea),fun o H3 e3 sf oth=>?_⟩
     have nar:∀ b u,H2 b=some u->(∀ k,u≠.dK k)->b≠ar:=fun b u e n z=>by rw [z,s2 _ _ ea] at e; exact n _ (Option.some.inj e).symm
     have t23:bV H2 H3:=fun b xs e=>by rw [oth b (nar b _ e (fun _ z=>by cases z))]; exact e
     have e13:=t23 _ _ Wu
     have pk3:Paired (j7 H3) kvs kt:=aA (fun _ _ y=>j7.ts y (s2.tups.trans t23)) pk
     refine fun D1 Y7=>LR (R':=Y9) (F:=fun p p'=>p'=p) (keep:=fun p=>decide (p.2.1=hh.name)) (fun s r=>r.ts s.tups) (fun e r=>r.ts (dR e)) Y7 e3 (by omega) pk3 (fun j kv p H4 hj rk s4 b N Q1 n1 q1=>?_) (fun vo ko H4 s4 Vo pvo pfo=>?_)
     . obtain ⟨hk1,_⟩:=rk
       have hk1':kV kv.1=V.str p.1:=by rw [show kv.1=Sum.inr p.1 from hk1]; rfl
       rw [hk1']
       obtain ⟨b2,v2,g2⟩:=(qI (n:=p.1) pk3).2 p.2 (Rb nd (List.mem_of_getElem? hj))
       have g4:=s4 _ _ g2
       have dg:∀ H5,Same H4 H5->eU H5 ar (.str p.1) (some (.ref b2)):=fun H5 s5=>.inl ⟨kvs,Sum.inr p.1,.inr ⟨o,(s4.trans s5) _ _ e3⟩,rfl,v2.symm⟩
       refine ⟨ar,.ref b2,rfl,dg _ (Same.refl _),?_⟩
       refine cP (bW.of g4) (i:=0) (v:=.str p.2.1) (by rfl) ?_
       refine cP (bW.of (s4 _ _ e13)) (i:=0) (v:=.str hh.name) (by rfl) ?_
       refine ⟨rfl,?_⟩
       refine fP (fun z=>?_) (fun z=>?_)
       . have zz:p.2.1=hh.name:=V.str.inj (of_decide_eq_true z)
         refine ⟨ar,.ref b2,rfl,dg _ (Same.refl _),?_⟩
         refine ⟨by show 1<=sizeLine; omega,fun p5 Sw=>?_⟩
         have s5:Same H4 (upd H4 p5 (.tup [.str p.1])):=(Same.refl H4).upd Sw
         have e5:upd H4 p5 (.tup [.str p.1]) p5=some (.tup [.str p.1]):=ao
         generalize Gs:upd H4 p5 (.tup [.str p.1])=H5 at s5 e5 ⊢
         clear Gs
         refine ⟨b2,p5,_,_,rfl,rfl,bW.of (s5 _ _ g4),bW.of e5,by simp,by show 3+1<=sizeLine; omega,fun z=>(by cases z),fun _ p6 hp6=>?_⟩
         exact q1 (decide_eq_true zz) _ _ p (s5.trans ((Same.refl H5).upd hp6)) ⟨p6,rfl,ao⟩ rfl
       . exact n1 (decide_eq_false fun y=>z (by rw [y]; simp)) _ (Same.refl _)
     . have ek:=lE pfo
       subst ek
       have lvo:=pvo.length
       have fko:=List.length_filter_le (fun p:bH=>decide (p.2.1=hh.name)) kt
       -- the dict is a plain one again
       refine ⟨_,⟨ar,o,.dK kvs,s4 _ _ e3,True.intro,Wz ea,rfl⟩,?_⟩
       have s5:Same H2 (upd H4 ar (.dK kvs)):=zE (s2 _ _ ea) oth fun b u _ e=>s4 _ _ e
       have nDa:D1≠ar:=fun z=>by rw [z,s4 _ _ e3] at Vo; cases Vo
       have e5:upd H4 ar (.dK kvs) D1=some (.lst vo):=by rw [aB nDa]; exact Vo
       have t45:bV H4 (upd H4 ar (.dK kvs)):=fun b xs e=>by rw [aB fun z=>by rw [z,s4 _ _ e3] at e; cases e]; exact e
       have ab2:=aA (fun _ _ y=>Y9.ts y t45) pvo
       generalize Gs:upd H4 ar (.dK kvs)=H5 at s5 e5 ab2 ⊢
       clear Gs
       refine ⟨Nat.zero_le _,fun R fR=>?_⟩
       have s6:Same H5 (upd H5 R (.lst [])):=(Same.refl H5).upd fR
       have e6:upd H5 R (.lst []) R=some (.lst []):=ao
       generalize Vn:upd H5 R (.lst [])=H6 at s6 e6 ⊢
       clear Vn
       have e56:=s6 _ _ e5
       have ab3:=aA (fun _ _ y=>Y9.ts y s6.tups) ab2
       have fR2:H2 R=none:=s5.free fR
       have fR0:H R=none:=s2.free fR2
       -- the numbers
       refine ⟨D1,rfl,⟨_,cT.of e56⟩,fun D2 fD2=>fU (R':=fun _ (v:V) (n:Int)=>v=V.int n) (F:=fun (p:bH) n=>n=p.2.2.1) (keep:=fun _=>true) (fun _ r=>r) (fun _ r=>r) fD2 e56 (by omega) ab3 (fun j y p H7 hj ry s7 b N Q1 _ q1=>?_) (fun vn ns H7 s7 SJ pvn pfn=>?_)⟩
       . obtain ⟨bb,rfl,eb⟩:=ry
         refine cP (bW.of (s7 _ _ eb)) (i:=1) (v:=.int p.2.2.1) (by rfl) ?_
         exact q1 rfl _ _ _ (Same.refl _) rfl rfl
       . rw [List.filter_eq_self.mpr (fun _ _=>rfl)] at pfn
         have en:=zJ pfn
         have ev:=paired_ints pvn
         subst ev
         have WM:∀ k∈ns,k=1∨k=3∨k=5:=fun k hk=>by
           rw [en] at hk
           obtain ⟨p,hp,rfl⟩:=List.mem_map.mp hk
           exact ahp p (List.mem_filter.mp hp).1
         refine ⟨D2,ns,rfl,cT.of SJ,WM,fun S fS=>?_⟩
         have s8:Same H7 (upd H7 S (zQ w S (xP ns ns.length))):=(Same.refl H7).upd fS
         have e8:upd H7 S (zQ w S (xP ns ns.length)) S=some (zQ w S (xP ns ns.length)):=ao
         refine ⟨S,_,rfl,e8,fun l9 fl9=>?_⟩
         generalize Y8:upd H7 S (zQ w S (xP ns ns.length))=H8 at s8 e8 fl9 ⊢
         clear Y8
         have s9:Same H8 (upd H8 l9 (.lst ((bR (xP ns ns.length)).map fun n:Nat=>V.int (n:Int)))):=(Same.refl H8).upd fl9
         have e9:upd H8 l9 (.lst ((bR (xP ns ns.length)).map fun n:Nat=>V.int (n:Int))) l9=some (.lst ((bR (xP ns ns.length)).map fun n:Nat=>V.int (n:Int))):=ao
         generalize hH9:upd H8 l9 (.lst ((bR (xP ns ns.length)).map fun n:Nat=>V.int (n:Int)))=H9 at s9 e9 ⊢
         clear hH9
         have S69:=(s7.trans s8).trans s9
         have Za:=(s5.trans s6).trans S69
         obtain ⟨ms,hms⟩:∃ ms:List Int,ms=(bR (xP ns ns.length)).map (fun n:Nat=>(n:Int)):=⟨_,rfl⟩
         have ems:((bR (xP ns ns.length)).map fun n:Nat=>V.int (n:Int))=ms.map V.int:=by rw [hms,List.map_map]; rfl
         rw [ems] at e9
         have lms:ms.length<=3:=by rw [hms,List.length_map]; exact List.length_filter_le _ _
         have nlR:l9≠R:=fun z=>by rw [z,(s7.trans s8) _ _ e6] at fl9; cases fl9
         have nDR:D1≠R:=fun z=>by rw [<- z,e5] at fR; cases fR
         have nR9:∀ {b u},H b=some u->b≠R:=fun e z=>by rw [z,fR0] at e; cases e
         refine ⟨l9,rfl,⟨_,cT.of e9⟩,qd (xs:=ms.map V.int) (fun j σ H'=>∃ (vr:List V) (rr:List (List Row)) (o7 o8:Option V),σ=[some (.ref c),some (.ref ar),some (.ref ll),some (.ref F),some (.ref a1),some (.ref D1),some (.ref R),o7,o8,o9]/\H' R=some (.lst vr)/\vr.length<=j/\Paired (mU H') vr rr/\Paired (tU hh.name kt) (ms.take j) rr/\∀ b u,b≠R->H9 b=some u->H' b=some u) ⟨[],[],_,_,rfl,S69 _ _ e6,Nat.zero_le _,.nil,.nil,fun _ _ _ e=>e⟩ (fun j σ H' _ hz=>?_) (fun j y σ uH hy hz=>?_) (fun σ uH hz=>?_)⟩
         . obtain ⟨_,_,_,_,_,_,_,_,_,sm⟩:=hz
           exact cT.of (sm _ _ nlR e9)
         . obtain ⟨vr,rr,o7',o8',rfl,eR,lvr,prr,prf,sm⟩:=hz
           obtain ⟨m,hm,rfl⟩:∃ m,ms[j]?=some m/\V.int m=y:=by
             rw [List.getElem?_map] at hy
             exact Option.map_eq_some_iff.mp hy
           have lj:j<ms.length:=(List.getElem?_eq_some_iff.mp hm).1
           have tR:bV H9 uH:=fun b xs e=>sm _ _ (fun z=>by rw [z,S69 _ _ e6] at e; cases e) e
           have ab4:uH D1=some (.lst vo):=sm _ _ nDR (S69 _ _ e56)
           have ab5:=aA (fun _ _ y=>Y9.ts y (S69.tups.trans tR)) ab3
           refine ⟨D1,rfl,⟨_,cT.of ab4⟩,fun D3 fD3=>fU (R':=Q9) (F:=fun p p'=>p'=p) (keep:=fun p=>decide (p.2.2.1=m)) (fun s r=>r.ts s.tups) (fun e r=>r.ts (dR e)) fD3 ab4 (by omega) ab5 (fun j' y p xQ hj' ry SQ b N Q1 n1 q1=>?_) (fun vn3 kN xQ SQ eD3 pv3 pf3=>?_)⟩
           . obtain ⟨bb,rfl,eb⟩:=ry
             have ab6:=SQ _ _ eb
             refine cP (bW.of ab6) (i:=1) (v:=.int p.2.2.1) (by rfl) ?_
             refine ⟨rfl,?_⟩
             refine fP (fun z=>?_) (fun z=>?_)
             . have zz:p.2.2.1=m:=V.int.inj (of_decide_eq_true z)
               refine ⟨⟨bb,_,rfl,ab6,fun p5 H' e' s'=>?_⟩⟩
               exact q1 (decide_eq_true zz) _ _ p s' ⟨p5,rfl,e'⟩ rfl
             . exact n1 (decide_eq_false fun y=>z (by rw [y]; simp)) _ (Same.refl _)
           . have SX:=lE pf3
             subst SX
             obtain ⟨ts,ev3,ht,em⟩:=Ju pv3
             subst ev3
             rw [GR] at em
             have lts:ts.length<=60:=by
               have z1:(ts.map (·.2)).length=((kt.filter (own hh.name m)).map wK).length:=congrArg List.length em
               rw [List.length_map,List.length_map] at z1
               have z2:=List.length_filter_le (own hh.name m) kt
               omega
             have ndt:(ts.map (·.2)).Nodup:=by
               rw [em]
               have z:((kt.filter (own hh.name m)).map (·.1)).Nodup:=(List.Sublist.map _ List.filter_sublist).nodup nd
               rw [List.nodup_iff_pairwise_ne,List.pairwise_map] at z ⊢
               exact z.imp fun h e=>h (congrArg Prod.snd e)
             refine ⟨D3,ts,rfl,cT.of eD3,fun t ht'=>⟨[],ht t ht',fun v hv=>(by cases hv)⟩,ndt,by omega,fun l3 ts' fl3 Vp pw3=>?_⟩
             have s12:Same xQ (upd xQ l3 (.lst ((ts'.map (·.1)).map V.ref))):=(Same.refl _).upd fl3
             have Mg:upd xQ l3 (.lst ((ts'.map (·.1)).map V.ref)) l3=some (.lst ((ts'.map (·.1)).map V.ref)):=ao
             generalize Rf:upd xQ l3 (.lst ((ts'.map (·.1)).map V.ref))=MP at s12 Mg ⊢
             clear Rf
             have pT:Paired (fun (x:V) (t:Addr × (Int × Str))=>x=V.ref t.1) ((ts'.map (·.1)).map V.ref) ts':=by
               have key:∀ l:List (Addr × (Int × Str)),Paired (fun (x:V) (t:Addr × (Int × Str))=>x=V.ref t.1) ((l.map (·.1)).map V.ref) l:=fun l=>by
                 induction l with
                 | nil=>exact .nil
                 | cons x l ih=>exact .cons rfl ih
               exact key ts'
             have WQ:=SQ.trans s12
             refine ⟨.inl ⟨rfl,_,cT.of (WQ _ _ eR)⟩,?_⟩
             refine ⟨l3,rfl,⟨_,cT.of Mg⟩,fun D4 fD4=>fU (R':=fG) (F:=fun t r=>r=((t.2.2,t.2.1):Row)) (keep:=fun _=>true) (fun s r=>r.ts s.tups) (fun e r=>r.ts (dR e)) fD4 Mg (by rw [List.length_map,List.length_map,Vp.length_eq]; omega) pT (fun j' y t BW hj' ry Ja b' N' Q3 _ q3=>?_) (fun ws4 rs BW Ja eD4 pw4 pf4=>?_)⟩
             . subst ry
               have et:BW t.1=some (.tup [.int t.2.1,.str t.2.2]):=(s12.trans Ja) _ _ (ht t (Vp.mem_iff.mp (List.mem_of_getElem? hj')))
               refine ⟨t.1,_,rfl,bW.of et,rfl,_,_,rfl,_,_,rfl,rfl,?_⟩
               refine ⟨by show 2<=sizeLine; omega,fun p8 hp8=>?_⟩
               exact q3 rfl _ _ _ ((Same.refl BW).upd hp8) ⟨p8,rfl,ao⟩ rfl
             . refine ⟨D4,ws4,rfl,.inl ⟨cT.of eD4,fun p8 hp8=>?_⟩⟩
               have S9:Same BW (upd BW p8 (.tup ws4)):=(Same.refl BW).upd hp8
               have e14:upd BW p8 (.tup ws4) p8=some (.tup ws4):=ao
               generalize aht:upd BW p8 (.tup ws4)=H14 at S9 e14 ⊢
               clear aht
               have Rg:=(WQ.trans Ja).trans S9
               have ab7:=Rg _ _ eR
               refine ⟨R,vr,.ref p8,rfl,rfl,ab7,by omega,?_⟩
               have tL:bV H14 (upd H14 R (.lst (vr++[.ref p8]))):=dR ⟨_,ab7⟩
               rw [List.filter_eq_self.mpr (fun _ _=>rfl)] at pf4
               have ers:rs.map Jo=ts'.map (·.2):=by
                 have key:∀ {l:List (Addr × (Int × Str))} {m:List Row},Paired (fun t r=>r=((t.2.2,t.2.1):Row)) l m->m.map Jo=l.map (·.2):=fun {l m} z=>by
                   induction z with
                   | nil=>rfl
                   | cons h _ ih=>rw [List.map_cons,List.map_cons,ih,h]; rfl
                 exact key pf4
               have ro:tU hh.name kt m rs:=by
                 refine ⟨?_,?_⟩
                 . rw [ers]
                   refine (Vp.map _).trans ?_
                   rw [em]
                 . rw [ers,List.pairwise_map]
                   exact pw3
               refine ⟨vr++[.ref p8],rr++[rs],_,_,rfl,ao,by rw [List.length_append]; show vr.length+1<=j+1; omega,aY (aA (fun _ _ z=>mU.ts tL (mU.ts Rg.tups z)) prr) (.cons ⟨p8,ws4,rfl,tL _ _ e14,aA (fun _ _ z=>fG.ts (S9.tups.trans tL) z) pw4⟩ .nil),by rw [List.take_add_one,hm]; exact aY prf (.cons ro .nil),fun b u n e=>?_⟩
               rw [aB n]
               exact Rg _ _ (sm _ _ n e)
         . obtain ⟨vr,rr,o7',o8',rfl,eR,lvr,prr,prf,sm⟩:=hz
           rw [List.length_map,List.take_length] at prf
           rw [List.length_map] at lvr
           have FR:F≠R:=fun z=>by rw [<- z,Yw] at fR2; cases fR2
           have eF9:=Za _ _ Yw
           have tR:bV H9 uH:=fun b xs e=>sm _ _ (fun z=>by rw [z,S69 _ _ e6] at e; cases e) e
           have ab8:=sm _ _ FR eF9
           have ea10:uH a1=some (.tup [.str hh.name,.int hh.low,.int hh.high,.int hh.aQ]):=tR _ _ (Za _ _ Wu)
           refine ⟨.inl ⟨rfl,_,cT.of ab8⟩,?_⟩
           refine ⟨R,vr,rfl,.inl ⟨cT.of eR,fun Jw ahu=>?_⟩⟩
           have SQ:Same uH (upd uH Jw (.tup vr)):=(Same.refl uH).upd ahu
           have VG:upd uH Jw (.tup vr) Jw=some (.tup vr):=ao
           generalize Rh:upd uH Jw (.tup vr)=xQ at SQ VG ⊢
           clear Rh
           refine ⟨by show 1<=sizeLine; omega,fun p12 ahv=>?_⟩
           have s12:Same xQ (upd xQ p12 (.tup [.ref Jw])):=(Same.refl xQ).upd ahv
           have Mg:upd xQ p12 (.tup [.ref Jw]) p12=some (.tup [.ref Jw]):=ao
           generalize Rf:upd xQ p12 (.tup [.ref Jw])=MP at s12 Mg ⊢
           clear Rf
           refine ⟨a1,p12,_,_,rfl,rfl,bW.of ((SQ.trans s12) _ _ ea10),bW.of Mg,by simp,by show 4+1<=sizeLine; omega,fun z=>(by cases z),fun _ WR ahw=>?_⟩
           have Ja:Same MP (upd MP WR (.tup ([.str hh.name,.int hh.low,.int hh.high,.int hh.aQ]++[.ref Jw]))):=(Same.refl MP).upd ahw
           have acd:upd MP WR (.tup ([.str hh.name,.int hh.low,.int hh.high,.int hh.aQ]++[.ref Jw])) WR=some (.tup [.str hh.name,.int hh.low,.int hh.high,.int hh.aQ,.ref Jw]):=ao
           generalize ahx:upd MP WR (.tup ([.str hh.name,.int hh.low,.int hh.high,.int hh.aQ]++[.ref Jw]))=BW at Ja acd ⊢
           clear ahx
           have Jx:=(SQ.trans s12).trans Ja
           have ace:=Jx _ _ ab8
           have li:i<hs.length:=(List.getElem?_eq_some_iff.mp hhi).1
           refine ⟨F,ws,.ref WR,rfl,rfl,ace,by omega,?_⟩
           have tF:bV BW (upd BW F (.lst (ws++[.ref WR]))):=dR ⟨_,ace⟩
           have ahy:bV H2 BW:=(Za.tups.trans tR).trans Jx.tups
           have ri:rQ hh.name kt rr:=by
             refine ⟨ms,by rw [hms]; exact Ma _,fun n=>?_,prf⟩
             rw [hms,Ra WM,en]
             constructor
             . intro z
               obtain ⟨p,hp,rfl⟩:=List.mem_map.mp z
               obtain ⟨h1,h2⟩:=List.mem_filter.mp hp
               exact ⟨p,h1,by unfold own; rw [h2,decide_eq_true rfl]; rfl⟩
             . rintro ⟨p,hp,oo⟩
               have h1:=(Bool.and_eq_true_iff.mp oo).1
               have h2:=of_decide_eq_true (Bool.and_eq_true_iff.mp oo).2
               exact List.mem_map.mpr ⟨p,List.mem_filter.mpr ⟨hp,h1⟩,h2⟩
           refine ⟨ws++[.ref WR],hs'++[⟨hh.name,hh.low,hh.high,hh.aQ,rr⟩],_,_,_,_,_,_,rfl,ao,by rw [List.length_append]; show ws.length+1<=i+1; omega,aY (aA (fun _ _ z=>fY.ts (ahy.trans tF) z) pw) (.cons ⟨WR,.ref Jw,rfl,tF _ _ acd,Jw,vr,rfl,tF _ _ ((s12.trans Ja) _ _ VG),aA (fun _ _ z=>mU.ts (Jx.tups.trans tF) z) prr⟩ .nil),by rw [List.take_add_one,hhi]; exact aY pf (.cons ⟨rfl,rfl,rfl,rfl,ri⟩ .nil),fun b u e=>?_⟩
           rw [aB (fun z=>by rw [z,fF] at e; cases e)]
           exact Jx _ _ (sm _ _ (nR9 e) (Za _ _ (s2 _ _ e)))
   . obtain ⟨ws,hs',o4,o5,o6,o7,o8,o9,rfl,Yw,lw,pwH,pf,s2⟩:=hz
     rw [lc,List.take_length] at pf
     have eL2:=s2 _ _ eL
     have lL:=pL.length
     have pL2:=aA (fun _ _ z=>bx.ts s2.tups z) pL
     have ea2:=s2 _ _ ea
     have pk2:=aA (fun _ _ z=>j7.ts z s2.tups) pk
     refine ⟨ll,rfl,⟨_,cT.of eL2⟩,fun D5 fD5=>fU (R':=Rc) (F:=fun l l'=>l'=l) (keep:=fun l=>yr kt l.1) (fun s r=>r.ts s.tups) (fun e r=>r.ts (dR e)) fD5 eL2 (by omega) pL2 (fun j y l H3 hj ry s3 b N Q1 n1 q1=>?_) (fun v5 lF H3 s3 eD5 pv5 pf5=>?_)⟩
     . obtain ⟨bb,rfl,eb⟩:=ry
       have eb3:=s3 _ _ eb
       have pk3:=aA (fun _ _ z=>j7.ts z s3.tups) pk2
       refine cP (bW.of eb3) (i:=0) (v:=.str l.1.1) (by rfl) ?_
       refine ⟨ar,_,rfl,eU.k (k:=Sum.inr l.1.1) (s3 _ _ ea2),_,rfl,?_⟩
       rw [n6 pk3]
       refine fP (fun z1=>?_) (fun z1=>?_)
       . refine cP (bW.of eb3) (i:=1) (v:=.str l.1.2) (by rfl) ?_
         refine ⟨ar,_,rfl,eU.k (k:=Sum.inr l.1.2) (s3 _ _ ea2),_,rfl,?_⟩
         rw [n6 pk3]
         refine fP (fun z2=>?_) (fun z2=>?_)
         . refine ⟨⟨bb,_,rfl,eb3,fun p5 H' e' s'=>?_⟩⟩
           refine ⟨by show 2<=sizeLine; omega,fun p6 hp6=>?_⟩
           have s6:Same H' (upd H' p6 (.tup [.ref p5,.ref bb])):=(Same.refl H').upd hp6
           exact q1 (by unfold yr; rw [z1,z2]; rfl) _ _ l (s'.trans s6) ⟨p6,p5,bb,rfl,ao,s6 _ _ e',bb,rfl,(s'.trans s6) _ _ eb3⟩ rfl
         . exact n1 (by unfold yr; rw [Bool.eq_false_iff.mpr z2,Bool.and_false]) _ (Same.refl _)
       . exact n1 (by unfold yr; rw [Bool.eq_false_iff.mpr z1,Bool.false_and]) _ (Same.refl _)
     . have el:=lE pf5
       subst el
       obtain ⟨ps,ev,gp,pt⟩:=Jv pv5
       subst ev
       have nlF:((ls.filter fun l=>yr kt l.1).map Prod.fst).Nodup:=(List.Sublist.map _ List.filter_sublist).nodup nl
       have lF:=List.length_filter_le (fun l:Letter=>yr kt l.1) ls
       have kk:=Mf pt
       refine ⟨D5,ps,rfl,eD5,gp,?_,fun d hd=>?_⟩
       . have z:ps.map (fun p=>p.2.2.1)=(ps.map (·.2.2)).map (·.1):=by rw [List.map_map]; rfl
         rw [z,kk]
         rw [List.nodup_iff_pairwise_ne,List.pairwise_map]
         exact (List.nodup_iff_pairwise_ne.mp nlF).imp fun h e=>h (vD e)
       . have s4:Same H3 (upd H3 d (.dT (ps.map (·.2.2)))):=(Same.refl H3).upd hd
         have e4:upd H3 d (.dT (ps.map (·.2.2))) d=some (.dT (ps.map (·.2.2))):=ao
         generalize Dy:upd H3 d (.dT (ps.map (·.2.2)))=H4 at s4 e4 ⊢
         clear Dy
         have S24:=s3.trans s4
         have eF4:=S24 _ _ Yw
         have pt4:=aA (fun _ _ z=>DP.ts z s4.tups) pt
         refine ⟨F,ws,rfl,.inl ⟨cT.of eF4,fun p5 Sw=>?_⟩⟩
         have s5:Same H4 (upd H4 p5 (.tup ws)):=(Same.refl H4).upd Sw
         have e5:upd H4 p5 (.tup ws) p5=some (.tup ws):=ao
         generalize Gs:upd H4 p5 (.tup ws)=H5 at s5 e5 ⊢
         clear Gs
         refine ⟨d,_,(ls.filter fun l=>yr kt l.1).map Prod.fst,rfl,s5 _ _ e4,kk,by rw [List.length_map]; omega,fun l as ks' fl pm pw la at'=>?_⟩
         have s6:Same H5 (upd H5 l (.lst (as.map V.ref))):=(Same.refl H5).upd fl
         have e6:upd H5 l (.lst (as.map V.ref)) l=some (.lst (as.map V.ref)):=ao
         generalize Vn:upd H5 l (.lst (as.map V.ref))=H6 at s6 e6 ⊢
         clear Vn
         have at6:∀ (i:Nat) (a:Addr) (k:Str × Str),as[i]?=some a->ks'[i]?=some k->H6 a=some (.tup [.str k.1,.str k.2]):=fun i a k h1 h2=>s6 _ _ (at' i a k h1 h2)
         have lk':ks'.length<=ls.length:=by rw [pm.length_eq,List.length_map]; exact lF
         have pas:Paired (fun (x:V) (k:Str × Str)=>∃ a,x=.ref a/\H6 a=some (.tup [.str k.1,.str k.2])) (as.map V.ref) ks':=by
           have key:∀ (as:List Addr) (ks:List (Str × Str)),as.length=ks.length->(∀ (i:Nat) (a:Addr) (k:Str × Str),as[i]?=some a->ks[i]?=some k->H6 a=some (.tup [.str k.1,.str k.2]))->Paired (fun (x:V) (k:Str × Str)=>∃ a,x=.ref a/\H6 a=some (.tup [.str k.1,.str k.2])) (as.map V.ref) ks:=by
             intro as
             induction as with
             | nil=>intro ks hl _; rw [List.eq_nil_of_length_eq_zero hl.symm]; exact .nil
             | cons a as ih =>
               intro ks hl h
               cases ks with
               | nil=>simp at hl
               | cons k ks=>exact .cons ⟨a,rfl,h 0 a k rfl rfl⟩ (ih ks (by simpa using hl) fun i a' k' h1 h2=>h (i+1) a' k' (by simpa using h1) (by simpa using h2))
           exact key as ks' la at6
         refine ⟨l,rfl,⟨_,cT.of e6⟩,fun D6 fD6=>fU (R':=bx) (F:=fun k l=>l∈(ls.filter fun l=>yr kt l.1)/\l.1=k) (keep:=fun _=>true) (fun s r=>r.ts s.tups) (fun e r=>r.ts (dR e)) fD6 e6 (by rw [List.length_map]; omega) pas (fun j y k H7 hj ry s7 b N Q1 _ q1=>?_) (fun v7 ls' H7 s7 eD6 pv7 pf7=>?_)⟩
         . obtain ⟨a,rfl,eA⟩:=ry
           have S47:=(s5.trans s6).trans s7
           obtain ⟨l0,ml0,el0,vv,hv,gb⟩:=DQ (aA (fun _ _ z=>DP.ts z S47.tups) pt4) (pm.mem_iff.mp (List.mem_of_getElem? hj))
           have dg:eU H7 d (.ref a) (some vv):=by
             have z:=eU.t (k:=kP k) (S47 _ _ e4) (b:=a) (s7 _ _ eA)
             rw [hv] at z
             exact z
           refine ⟨d,vv,rfl,dg,?_⟩
           exact q1 rfl _ _ l0 (Same.refl _) gb ⟨ml0,el0⟩
         . rw [List.filter_eq_self.mpr (fun _ _=>rfl)] at pf7
           refine ⟨D6,v7,rfl,.inl ⟨cT.of eD6,fun p8 hp8=>?_⟩⟩
           have s8:Same H7 (upd H7 p8 (.tup v7)):=(Same.refl H7).upd hp8
           have e8:upd H7 p8 (.tup v7) p8=some (.tup v7):=ao
           generalize Y8:upd H7 p8 (.tup v7)=H8 at s8 e8 ⊢
           clear Y8
           refine ⟨by show 2<=sizeLine; omega,fun p9 hp9=>?_⟩
           have s9:Same H8 (upd H8 p9 (.tup [.ref p5,.ref p8])):=(Same.refl H8).upd hp9
           have S59:=((s6.trans s7).trans s8).trans s9
           have Za:=(S24.trans s5).trans S59
           have allIn:ks'.filter (yr kt)=ks':=by
             refine List.filter_eq_self.mpr fun k hk=>?_
             obtain ⟨l1,m1,rfl⟩:=List.mem_map.mp (pm.mem_iff.mp hk)
             exact (List.mem_filter.mp m1).2
           have lo:=Dz (kt:=kt) nlF pm pw (by rw [allIn]; exact pf7)
           have lo':qJ kt ls ls':=by
             refine ⟨?_,lo.2⟩
             have z:=lo.1
             rw [List.filter_filter] at z
             simpa using z
           exact q _ hs' ls' _ ⟨p9,_,_,rfl,ao,⟨p5,ws,rfl,S59 _ _ e5,aA (fun _ _ z=>fY.ts Za.tups z) pwH⟩,⟨p8,v7,rfl,s9 _ _ e8,aA (fun _ _ z=>bx.ts (s8.trans s9).tups z) pv7⟩⟩ pf lo' (s2.trans Za)
end
end jQ
namespace jQ
open PySem L2 fW
def Ri (t:ux):bH:=(t.2.2.1,t.1,t.2.1,t.2.2.2)
def gY (hs:List aJ):List bH:=(UW hs).map Ri
theorem jM {hs:List aJ} {p:bH}:p∈gY hs↔∃ h∈hs,∃ j,j<h.runs.length/\∃ r∈h.runs.getD j [],p=(r.1,h.name,2 * (j:Int)+1,r.2):=by
 unfold gY UW trH trJ
 rw [List.mem_map]
 constructor
 . rintro ⟨t,ht,rfl⟩
   obtain ⟨h,hh,ht⟩:=List.mem_flatMap.mp ht
   obtain ⟨j,hj,ht⟩:=List.mem_flatMap.mp ht
   obtain ⟨r,hr,rfl⟩:=List.mem_map.mp ht
   exact ⟨h,hh,j,List.mem_range.mp hj,r,hr,rfl⟩
 . rintro ⟨h,hh,j,hj,r,hr,rfl⟩
   exact ⟨trR h j r,List.mem_flatMap.mpr ⟨h,hh,List.mem_flatMap.mpr ⟨j,List.mem_range.mpr hj,List.mem_map.mpr ⟨r,hr,rfl⟩⟩⟩,rfl⟩
theorem range_getD {α:Type} (l:List (List α)):(List.range l.length).flatMap (fun j=>l.getD j [])=l.flatten:=by
 have e:(List.range l.length).map (fun j=>l.getD j [])=l:=by
   refine List.ext_getElem (by simp) fun i h1 h2=>?_
   simp [List.getD,List.getElem?_eq_getElem h2]
 rw [List.flatMap_def,e]
theorem iC (hs:List aJ):(gY hs).map (·.1)=namesOf hs:=by
 unfold gY UW namesOf
 rw [List.map_map,List.map_flatMap]
 congr 1
 funext h
 unfold trH eE oR
 rw [<- range_getD,List.map_flatMap,List.map_flatMap]
 congr 1
 funext j
 unfold trJ
 rw [List.map_map]
 rfl
theorem w5 {hs:List aJ} (n:(hs.map aJ.name).Nodup) {a b:aJ} (ha:a∈hs) (hb:b∈hs) (e:a.name=b.name):a=b:=by
 obtain ⟨i,hi,ei⟩:=List.getElem_of_mem ha
 obtain ⟨j,hj,ej⟩:=List.getElem_of_mem hb
 have a1:(hs.map aJ.name)[i]?=some a.name:=by rw [List.getElem?_map,List.getElem?_eq_getElem hi,ei]; rfl
 have a2:(hs.map aJ.name)[j]?=some a.name:=by rw [List.getElem?_map,List.getElem?_eq_getElem hj,ej,e]; rfl
 have ij:=(List.getElem?_inj (by rw [List.length_map]; exact hi) n).mp (a1.trans a2.symm)
 subst ij
 rw [<- ei,ej]
theorem getD_mem {α:Type} {l:List (List α)} {j:Nat} (h:j<l.length):l.getD j []∈l:=by
 simp only [List.getD,List.getElem?_eq_getElem h,Option.getD_some]
 exact List.getElem_mem h
theorem Rj {rs:List Row} (h:(rs.map Prod.snd).Pairwise (·<·)) {a b:Row} (ha:a∈rs) (hb:b∈rs) (e:a.2=b.2):a=b:=by
 have n:(rs.map Prod.snd).Nodup:=h.imp fun h=>by omega
 obtain ⟨i,hi,ei⟩:=List.getElem_of_mem ha
 obtain ⟨j,hj,ej⟩:=List.getElem_of_mem hb
 have a1:(rs.map Prod.snd)[i]?=some a.2:=by rw [List.getElem?_map,List.getElem?_eq_getElem hi,ei]; rfl
 have a2:(rs.map Prod.snd)[j]?=some a.2:=by rw [List.getElem?_map,List.getElem?_eq_getElem hj,ej,e]; rfl
 have ij:=(List.getElem?_inj (by rw [List.length_map]; exact hi) n).mp (a1.trans a2.symm)
 subst ij
 rw [<- ei,ej]
theorem VH {hs:List aJ} (g:bL hs):(gY hs).Nodup:=by
 have n:((gY hs).map (·.1)).Nodup:=by rw [iC]; exact g.rows
 rw [List.nodup_iff_pairwise_ne,List.pairwise_map] at n
 exact n.imp fun h e=>h (by rw [e])
theorem Rk {hs:List aJ} (g:bL hs) {p q:bH} (hp:p∈gY hs) (hq:q∈gY hs) (e:p.2=q.2):p=q:=by
 obtain ⟨h,hh,j,hj,r,hr,rfl⟩:=jM.mp hp
 obtain ⟨h',hh',j',hj',r',hr',rfl⟩:=jM.mp hq
 simp only [Prod.mk.injEq] at e
 obtain ⟨e1,e2,e3⟩:=e
 have:=w5 g.names hh hh' e1
 subst this
 have:j=j':=by omega
 subst this
 have:=Rj ((g.all h hh).runs _ (getD_mem hj)).rise hr hr' e3
 rw [this]
theorem DW {hs:List aJ} (g:bL hs):((gY hs).map (·.2)).Nodup:=by
 rw [List.nodup_iff_pairwise_ne,List.pairwise_map]
 exact (List.nodup_iff_pairwise_ne.mp (VH g)).imp_of_mem fun ha hb h e=>h (Rk g ha hb e)
theorem oE {hs:List aJ} {l:Letter} {kt:List bH} (g:bL hs) (gl:ig hs l) (sub:∀ p∈kt,p∈gY hs):dJ (ktM kt) l.1.1 l.1.2=false:=by
 have key:∀ n p,ktM kt n=some p->Iu (pairsOf hs) n=some p.1:=fun n p e=>by
   unfold ktM at e
   obtain ⟨q,hq,rfl⟩:=Option.map_eq_some_iff.mp e
   have hn:q.1=n:=by have:=List.find?_some hq; simpa using this
   obtain ⟨h,hh,j,hj,r,hr,rfl⟩:=jM.mp (sub q (List.mem_of_find?_eq_some hq))
   have hn':r.1=n:=hn
   rw [<- hn']
   exact owner g.rows hh (List.mem_map.mpr ⟨r,List.mem_flatten.mpr ⟨_,getD_mem hj,hr⟩,rfl⟩)
 obtain ⟨h1,m1,h2,m2,n1,n2,ne⟩:=gl.Fp
 unfold dJ
 cases e1:ktM kt l.1.1 with
 | none=>rfl
 | some p =>
   cases e2:ktM kt l.1.2 with
   | none=>rfl
   | some q =>
     refine decide_eq_false fun z=>ne ?_
     have a1:=key _ _ e1
     have a2:=key _ _ e2
     rw [owner g.rows m1 n1] at a1
     rw [owner g.rows m2 n2] at a2
     rw [Option.some.inj a1,Option.some.inj a2,z]
theorem Rm {hs:List aJ} {kt:List bH} (g:bL hs) (pk:kt.Perm (gY hs)) {h:aJ} (hh:h∈hs):rQ h.name kt h.runs:=by
 have gh:=g.all h hh
 have acf:∀ {p:bH} {n:Int},p∈gY hs->own h.name n p=true->∃ j,j<h.runs.length/\n=2 * (j:Int)+1/\∃ r∈h.runs.getD j [],p=(r.1,h.name,2 * (j:Int)+1,r.2):=fun {p n} hp o=>by
   obtain ⟨h',hh',j,hj,r,hr,rfl⟩:=jM.mp hp
   have o1:h'.name=h.name:=of_decide_eq_true (Bool.and_eq_true_iff.mp o).1
   have o2:2 * (j:Int)+1=n:=of_decide_eq_true (Bool.and_eq_true_iff.mp o).2
   have:=w5 g.names hh' hh o1
   subst this
   exact ⟨j,hj,o2.symm,r,hr,rfl⟩
 have acg:∀ (j:Nat) (r:Row),own h.name (2 * (j:Int)+1) (r.1,h.name,2 * (j:Int)+1,r.2)=true:=fun j r=>by simp [own]
 refine ⟨(List.range h.runs.length).map fun j:Nat=>2 * (j:Int)+1,?_,fun n=>?_,?_⟩
 . rw [List.pairwise_map]
   exact List.pairwise_lt_range.imp fun h=>by omega
 . constructor
   . intro z
     obtain ⟨j,hj,rfl⟩:=List.mem_map.mp z
     have hj:=List.mem_range.mp hj
     have ne:=(gh.runs _ (getD_mem hj)).ne
     cases e:h.runs.getD j [] with
     | nil=>exact absurd e ne
     | cons r rs=>exact ⟨_,pk.mem_iff.mpr (jM.mpr ⟨h,hh,j,hj,r,by rw [e]; exact List.mem_cons_self,rfl⟩),acg j r⟩
   . rintro ⟨p,hp,o⟩
     obtain ⟨j,hj,rfl,_⟩:=acf (pk.mem_iff.mp hp) o
     exact List.mem_map.mpr ⟨j,List.mem_range.mpr hj,rfl⟩
 . have key:∀ m,m<=h.runs.length->Paired (tU h.name kt) ((List.range m).map fun j:Nat=>2 * (j:Int)+1) (h.runs.take m):=by
     intro m
     induction m with
     | zero=>intro _; exact .nil
     | succ m ih =>
       intro hm
       have lm:m<h.runs.length:=by omega
       rw [List.range_succ,List.map_append,List.take_add_one,List.getElem?_eq_getElem lm]
       refine aY (ih (by omega)) (.cons ?_ .nil)
       have eg:h.runs.getD m []=h.runs[m]:=by simp [List.getD,List.getElem?_eq_getElem lm]
       have gr:=gh.runs _ (List.getElem_mem lm)
       have pw:(h.runs[m].map Jo).Pairwise (fun a b=>ltR a b=true):=by
         rw [List.pairwise_map]
         have z:=gr.rise
         rw [List.pairwise_map] at z
         exact z.imp fun {a b} hlt=>by
           have ne:¬ a.2=b.2:=by omega
           show Jk YZ kdS (a.2,a.1) (b.2,b.1)=true
           unfold Jk
           rw [if_neg ne]
           exact decide_eq_true hlt
       refine ⟨?_,pw⟩
       have nd1:(h.runs[m].map Jo).Nodup:=pw.imp fun {a b} hlt e=>by
         rw [e] at hlt
         have z:Jk YZ kdS b b=true:=hlt
         rw [(pI YZ kdS).Im] at z
         cases z
       have ndk:(kt.map (·.1)).Nodup:=by
         have z:((gY hs).map (·.1)).Nodup:=by rw [iC]; exact g.rows
         exact (pk.map _).nodup_iff.mpr z
       have nd2:((kt.filter (own h.name (2 * (m:Int)+1))).map wK).Nodup:=by
         have z:((kt.filter (own h.name (2 * (m:Int)+1))).map (·.1)).Nodup:=(List.Sublist.map _ List.filter_sublist).nodup ndk
         rw [List.nodup_iff_pairwise_ne,List.pairwise_map] at z ⊢
         exact z.imp fun h e=>h (congrArg Prod.snd e)
       refine (List.perm_ext_iff_of_nodup nd1 nd2).mpr fun x=>⟨fun hx=>?_,fun hx=>?_⟩
       . obtain ⟨r,hr,rfl⟩:=List.mem_map.mp hx
         exact List.mem_map.mpr ⟨(r.1,h.name,2 * (m:Int)+1,r.2),List.mem_filter.mpr ⟨pk.mem_iff.mpr (jM.mpr ⟨h,hh,m,lm,r,by rw [eg]; exact hr,rfl⟩),acg m r⟩,rfl⟩
       . obtain ⟨p,hp,rfl⟩:=List.mem_map.mp hx
         obtain ⟨hp1,o⟩:=List.mem_filter.mp hp
         obtain ⟨j,hj,ej,r,hr,rfl⟩:=acf (pk.mem_iff.mp hp1) o
         have:j=m:=by omega
         subst this
         rw [eg] at hr
         exact List.mem_map.mpr ⟨r,hr,rfl⟩
   have z:=key h.runs.length (Nat.le_refl _)
   rw [List.take_length] at z
   exact z
theorem Bs {hs:List aJ} {kt:List bH} (g:bL hs) (pk:kt.Perm (gY hs)):Paired (pJ kt) hs hs:=by
 have key:∀ l:List aJ,(∀ h∈l,h∈hs)->Paired (pJ kt) l l:=by
   intro l
   induction l with
   | nil=>intro _; exact .nil
   | cons h l ih=>intro z; exact .cons ⟨rfl,rfl,rfl,rfl,Rm g pk (z h List.mem_cons_self)⟩ (ih fun x hx=>z x (List.mem_cons_of_mem _ hx))
 exact key hs fun _ h=>h
theorem Bt {hs:List aJ} {ls lk:List Letter} {kt:List bH} (gl:gF hs ls) (pk:kt.Perm (gY hs)) (pl:lk.Perm ls):qJ kt lk ls:=by
 refine ⟨?_,gl.rise⟩
 have e:(lk.filter fun l=>yr kt l.1)=lk:=by
   refine List.filter_eq_self.mpr fun l hl=>?_
   obtain ⟨h1,m1,h2,m2,n1,n2,_⟩:=(gl.all l (pl.mem_iff.mp hl)).Fp
   have mm:∀ {h:aJ} {n:Str},h∈hs->n∈eE h->n∈kt.map (·.1):=fun {h n} hh hn=>by
     rw [(pk.map _).mem_iff,iC]
     exact List.mem_flatMap.mpr ⟨h,hh,hn⟩
   unfold yr
   rw [decide_eq_true (mm m1 n1),decide_eq_true (mm m2 n2)]
   rfl
 rw [e]
 exact pl.symm
abbrev Th:=Sum ux Letter
def yw (H:Hp) (v:V):Th->Prop
 | .inl t=>Qc H v t
 | .inr l=>bx H v l
theorem yw.ts {H H':Hp} {v:V} {t:Th} (h:yw H v t) (s:bV H H'):yw H' v t:=by
 cases t with
 | inl t=>exact Qc.ts h s
 | inr l=>exact bx.ts s h
def Zb:Th->Option bH
 | .inl t=>some (Ri t)
 | .inr _=>none
def GX:Th->Option Letter
 | .inl _=>none
 | .inr l=>some l
def bY (l:List Th):List bH:=l.filterMap Zb
def cM (l:List Th):List Letter:=l.filterMap GX
def qM (hs:List aJ) (ls:List Letter):List Th:=(UW hs).map .inl++ls.map .inr
theorem w6 (hs:List aJ) (ls:List Letter):bY (qM hs ls)=gY hs:=by
 unfold bY qM gY
 rw [List.filterMap_append,List.filterMap_map,List.filterMap_map]
 have e1:(Zb∘Sum.inl:ux->Option bH)=fun t=>some (Ri t):=rfl
 have e2:(Zb∘Sum.inr:Letter->Option bH)=fun _=>none:=rfl
 rw [e1,e2]
 simp
theorem xg (hs:List aJ) (ls:List Letter):cM (qM hs ls)=ls:=by
 unfold cM qM
 rw [List.filterMap_append,List.filterMap_map,List.filterMap_map]
 have e1:(GX∘Sum.inl:ux->Option Letter)=fun _=>none:=rfl
 have e2:(GX∘Sum.inr:Letter->Option Letter)=fun l=>some l:=rfl
 rw [e1,e2]
 simp
theorem DX {α β:Type} {F:α->β->Prop} {xs ys:List α} (p:ys.Perm xs):∀ {bs:List β},Paired F xs bs->∃ cs,cs.Perm bs/\Paired F ys cs:=by
 induction p with
 | nil=>intro bs h; cases h; exact ⟨[],.nil,.nil⟩
 | cons x _ ih =>
   intro bs h
   cases h with
   | cons h t =>
     obtain ⟨cs,pc,q⟩:=ih t
     exact ⟨_ :: cs,pc.cons _,.cons h q⟩
 | swap x y l =>
   intro bs h
   cases h with
   | cons h t =>
     cases t with
     | cons h' t=>exact ⟨_,List.Perm.swap _ _ _,.cons h' (.cons h t)⟩
 | trans _ _ ih1 ih2 =>
   intro bs h
   obtain ⟨cs,pc,q⟩:=ih2 h
   obtain ⟨ds,pd,q'⟩:=ih1 q
   exact ⟨ds,pd.trans pc,q'⟩
end jQ
namespace jQ
open PySem L2 fW
def DY (r:Row):PyData:=.tuple [.str r.1,.int r.2]
def xq (rs:List Row):PyData:=.tuple (rs.map DY)
def oF (h:aJ):PyData:=.tuple [.str h.name,.int h.low,.int h.high,.int h.aQ,.tuple (h.runs.map xq)]
def GZ:Option Int->PyData
 | none=>.none
 | some i=>.int i
def zK (l:Letter):PyData:=.tuple [.str l.1.1,.str l.1.2,.int l.2.1,GZ l.2.2]
def zL (hs:List aJ) (ls:List Letter):PyData:=.tuple [.tuple (hs.map oF),.tuple (ls.map zK)]
theorem oG {α:Type} {K:PySem.W.Frag} {H:Hp} {R:V->α->Prop} {f:α->PyData} {vs:List V} {xs:List α} (p:Paired R vs xs) (h:∀ v x,R v x->Dp K H v (f x)):Mz K H vs (xs.map f):=by
 induction p with
 | nil=>exact .nil
 | cons r _ ih=>exact .cons (h _ _ r) ih
theorem nu {K:PySem.W.Frag} {H:Hp} {v:V} {hs:List aJ} {ls:List Letter} (h:dD H v hs ls):Dp K H v (zL hs ls):=by
 obtain ⟨a,x,y,rfl,ea,⟨b,vb,rfl,eb,pb⟩,⟨c,vc,rfl,ec,pc⟩⟩:=h
 refine .tup (bW.of ea) (.cons (.tup (bW.of eb) (oG pb fun v h hh=>?_)) (.cons (.tup (bW.of ec) (oG pc fun v l hl=>?_)) .nil))
 . obtain ⟨a1,b1,rfl,e1,c1,v1,rfl,e2,p1⟩:=hh
   refine .tup (bW.of e1) (.cons (.str _) (.cons (.int _) (.cons (.int _) (.cons (.int _) (.cons (.tup (bW.of e2) (oG p1 fun v rs hr=>?_)) .nil)))))
   obtain ⟨a2,v2,rfl,e3,p2⟩:=hr
   refine .tup (bW.of e3) (oG p2 fun v r hr=>?_)
   obtain ⟨a3,rfl,e4⟩:=hr
   exact .tup (bW.of e4) (.cons (.str _) (.cons (.int _) .nil))
 . obtain ⟨a1,rfl,e1⟩:=hl
   refine .tup (bW.of e1) (.cons (.str _) (.cons (.str _) (.cons (.int _) (.cons ?_ .nil))))
   cases l.2.2 with
   | none=>exact .non
   | some i=>exact .int i
theorem qN {α:Type} {f:α->PyData}:∀ {xs:List α},(∀ x∈xs,(f x).canLay0=true)->PyData.canLayAll0 (xs.map f)=true
 | [],_=>rfl
 | x :: xs,h=>by
   rw [List.map_cons]
   unfold PyData.canLayAll0
   rw [h x List.mem_cons_self,qN fun y hy=>h y (List.mem_cons_of_mem _ hy)]
   rfl
theorem lG {α:Type} {f:α->PyData} {d:Nat}:∀ {xs:List α},(∀ x∈xs,(f x).depth<=d)->PyData.depthAll (xs.map f)<=d
 | [],_=>Nat.zero_le _
 | x :: xs,h=>by
   rw [List.map_cons]
   unfold PyData.depthAll
   have h1:=h x List.mem_cons_self
   have h2:=lG (xs:=xs) fun y hy=>h y (List.mem_cons_of_mem _ hy)
   omega
structure Rn (hs:List aJ) (ls:List Letter):Prop where
 hn:∀ h∈hs,Good h.name
 rn:∀ h∈hs,∀ rs∈h.runs,∀ r∈rs,Good r.1
 ln:∀ l∈ls,Good l.1.1/\Good l.1.2
theorem Mh (r:Row):(DY r).depth=1:=by simp [DY,PyData.depth,PyData.depthAll]
theorem Mi (rs:List Row):(xq rs).depth<=2:=by
 unfold xq PyData.depth
 have:=lG (f:=DY) (d:=1) (xs:=rs) fun r _=>by rw [Mh]; exact Nat.le_refl _
 omega
theorem Ea (h:aJ):(oF h).depth<=4:=by
 have:=lG (f:=xq) (d:=2) (xs:=h.runs) fun r _=>Mi r
 have e:(PyData.tuple (h.runs.map xq)).depth<=3:=by unfold PyData.depth; omega
 unfold oF
 simp only [PyData.depth,PyData.depthAll] at e ⊢
 omega
theorem Mj (l:Letter):(zK l).depth<=1:=by
 unfold zK
 cases l.2.2 <;> simp [GZ,PyData.depth,PyData.depthAll]
theorem dY {hs:List aJ} {ls:List Letter} (g:Rn hs ls):SeqAt.shaped (zL hs ls)=true:=by
 have h1:=qN (f:=oF) (xs:=hs) fun h hh=>by
   have r:=qN (f:=xq) (xs:=h.runs) fun rs hr=>by
     unfold xq PyData.canLay0
     exact qN fun r hr'=>by
       have z:=(g.rn h hh rs hr r hr').ok
       simp [DY,PyData.canLay0,PyData.canLayAll0,z]
   have z:=(g.hn h hh).ok
   simp [oF,PyData.canLay0,PyData.canLayAll0,z,r]
 have h2:=qN (f:=zK) (xs:=ls) fun l hl=>by
   have z1:=(g.ln l hl).1.ok
   have z2:=(g.ln l hl).2.ok
   unfold zK
   cases l.2.2 <;> simp [GZ,PyData.canLay0,PyData.canLayAll0,z1,z2]
 have d1:=lG (f:=oF) (d:=4) (xs:=hs) fun h _=>Ea h
 have d2:=lG (f:=zK) (d:=1) (xs:=ls) fun l _=>Mj l
 unfold SeqAt.shaped
 rw [Bool.and_eq_true]
 refine ⟨?_,decide_eq_true ?_⟩
 . simp [zL,PyData.canLay0,PyData.canLayAll0,h1,h2]
 . simp only [zL,PyData.depth,PyData.depthAll]
   omega
theorem uR {hs:List aJ} {ls:List Letter} (g:Rn hs ls):PyData.eqv (zL hs ls) (zL hs ls)=true:=SeqAt.eqv_refl _ (Bool.and_eq_true_iff.mp (dY g)).1
theorem oH {hs hs':List aJ} {ls ls':List Letter} {kt:List bH} (gn:∀ h∈hs,Good h.name) (gk:∀ p∈kt,Good p.1) (gl:∀ l∈ls,Good l.1.1/\Good l.1.2) (p:Paired (pJ kt) hs hs') (lo:qJ kt ls ls'):Rn hs' ls':=by
 have key:∀ h'∈hs',∃ h∈hs,pJ kt h h':=fun h' hh=>by
   obtain ⟨i,hi,ei⟩:=List.getElem_of_mem hh
   obtain ⟨h,e,q⟩:=fj p (List.getElem?_eq_getElem hi)
   exact ⟨h,List.mem_of_getElem? e,ei ▸ q⟩
 refine ⟨fun h' hh=>?_,fun h' hh rs hr r hr'=>?_,fun l hl=>gl l (List.mem_filter.mp (lo.1.mem_iff.mp hl)).1⟩
 . obtain ⟨h,m,q⟩:=key h' hh
   rw [q.1]
   exact gn h m
 . obtain ⟨h,m,q⟩:=key h' hh
   obtain ⟨ns,_,_,pr⟩:=q.2.2.2.2
   obtain ⟨i,hi,ei⟩:=List.getElem_of_mem hr
   obtain ⟨n,_,ro⟩:=fj pr (List.getElem?_eq_getElem hi)
   rw [ei] at ro
   have z:Jo r∈(kt.filter (own h.name n)).map wK:=ro.1.mem_iff.mp (List.mem_map.mpr ⟨r,hr',rfl⟩)
   obtain ⟨p,hp,ep⟩:=List.mem_map.mp z
   have e2:p.1=r.1:=congrArg Prod.snd ep
   rw [<- e2]
   exact gk p (List.mem_filter.mp hp).1
end jQ
namespace jQ
open PySem L2 fW
theorem ach {t u:TS} {D:Ends} {σ:St} {H:Hp} (Ok:St->Hp->Prop) (h:∀ U:St->Hp->Prop,(∀ σ H,Ok σ H->U σ H)->t { D with nx:=U } σ H) (h2:∀ σ H,Ok σ H->u D σ H):Ni t u D σ H:=h (u D) h2
theorem mH.frame {C:Addr} {H H':Hp} {x dx:Addr} {ch:V} {ak al ae q:Addr} {hs:List aJ} {kt:List bH} {ls:List Letter} (h:mH C H x dx ch ak al ae hs kt ls) (sm:∀ b u,b≠q->H b=some u->H' b=some u) (nx:q≠x) (nk:q≠ak) (nl:q≠al) (ne:q≠ae) (nt:∀ xs,H q≠some (.tup xs)):mH C H' x dx ch ak al ae hs kt ls:=by
 have tx:bV H H':=fun b xs e=>sm b _ (fun z=>nt xs (by rw [<- z]; exact e)) e
 refine ⟨sm _ _ (Ne.symm nx) h.ob,h.ck.ts tx,?_,?_,?_,h.ne,h.nd,h.nl,h.fk,h.fl,h.f6⟩
 . obtain ⟨kk,ekk,BR⟩:=h.kp
   exact ⟨kk,sm _ _ (Ne.symm nk) ekk,aA (fun _ _ y=>j7.ts y tx) BR⟩
 . obtain ⟨kk,ekk,BR⟩:=h.lt
   exact ⟨kk,sm _ _ (Ne.symm nl) ekk,aA (fun _ _ y=>wM.ts y tx) BR⟩
 . obtain ⟨kk,ekk,lkk,WL⟩:=h.en
   exact ⟨kk,sm _ _ (Ne.symm ne) ekk,lkk,fun k v hv=>let ⟨b,r,e1,e2⟩:=WL k v hv; ⟨b,r,e1,tx _ _ e2⟩⟩
structure RI (C p L x dx al ae ar ll:Addr) (ch lg:V) (H0:Hp) (hs:List aJ) (ls:List Letter) (ys:List V) (th:List Th) (kt rt:List bH) (lk lt:List Letter) (ak:Addr) (H:Hp):Prop where
 kp:mH C H x dx ch ak al ae hs kt lk
 rw:jY H ar rt
 lt:∃ vl,H ll=some (.lst vl)/\Paired (bx H) vl lt
 pk:bM H p
 mx:H L=some (.lst ys)
 lg:dD H lg hs ls
 th:Paired (yw H) ys th
 n1:ar≠ak
 sm:aZ p H0 H
section
variable {C p L x dx al ae ar ll:Addr} {ch lg:V} {H0:Hp} {hs:List aJ} {ls:List Letter} {ys:List V} {th:List Th} {kt rt kt' rt':List bH} {lk lt lk' lt':List Letter} {ak QZ q:Addr} {H H':Hp}
theorem RI.same (h:RI C p L x dx al ae ar ll ch lg H0 hs ls ys th kt rt lk lt ak H) (s:Same H H'):RI C p L x dx al ae ar ll ch lg H0 hs ls ys th kt rt lk lt ak H' :=
 ⟨h.kp.same s,h.rw.same s,let ⟨vl,e,q⟩:=h.lt; ⟨vl,s _ _ e,aA (fun _ _ z=>bx.ts s.tups z) q⟩,mj h.pk s,s _ _ h.mx,h.lg.ts s.tups,aA (fun _ _ z=>yw.ts z s.tups) h.th,h.n1,fun b u n e=>s _ _ (h.sm b u n e)⟩
theorem RI.chg (h:RI C p L x dx al ae ar ll ch lg H0 hs ls ys th kt rt lk lt ak H) (s:aZ q H H') (nt:∀ xs,H q≠some (.tup xs)) (q0:H0 q=none∨q=p) (nL:L≠q) (kp:mH C H' x dx ch QZ al ae hs kt' lk') (rw:jY H' ar rt') (lt2:∃ vl,H' ll=some (.lst vl)/\Paired (bx H') vl lt') (pk:bM H' p) (n1:ar≠QZ):RI C p L x dx al ae ar ll ch lg H0 hs ls ys th kt' rt' lk' lt' QZ H':=by
 have tx:bV H H':=fun b xs e=>s b _ (fun z=>nt xs (by rw [<- z]; exact e)) e
 refine ⟨kp,rw,lt2,pk,s _ _ nL h.mx,h.lg.ts tx,aA (fun _ _ z=>yw.ts z tx) h.th,n1,fun b u n e=>s _ _ (fun z=>?_) (h.sm b u n e)⟩
 rcases q0 with q0 | q0
 . rw [z,q0] at e; cases e
 . exact n (z.trans q0)
theorem RI.rwF (h:RI C p L x dx al ae ar ll ch lg H0 hs ls ys th kt rt lk lt ak H) (s:aZ q H H') (nt:∀ xs,H q≠some (.tup xs)) (n:ar≠q):jY H' ar rt:=by
 have tx:bV H H':=fun b xs e=>s b _ (fun z=>nt xs (by rw [<- z]; exact e)) e
 obtain ⟨k4,e4,p4⟩:=h.rw
 exact ⟨k4,s _ _ n e4,aA (fun _ _ y=>j7.ts y tx) p4⟩
theorem RI.Ss (h:RI C p L x dx al ae ar ll ch lg H0 hs ls ys th kt rt lk lt ak H) (s:aZ q H H') (nt:∀ xs,H q≠some (.tup xs)) (n:ll≠q):∃ vl,H' ll=some (.lst vl)/\Paired (bx H') vl lt:=by
 have tx:bV H H':=fun b xs e=>s b _ (fun z=>nt xs (by rw [<- z]; exact e)) e
 obtain ⟨k4,e4,p4⟩:=h.lt
 exact ⟨k4,s _ _ n e4,aA (fun _ _ y=>bx.ts tx y) p4⟩
theorem RI.pkF (h:RI C p L x dx al ae ar ll ch lg H0 hs ls ys th kt rt lk lt ak H) (s:aZ q H H') (n:p≠q):bM H' p:=let ⟨m,e,z⟩:=h.pk; ⟨m,s _ _ n e,z⟩
theorem dX {H:Hp} {a b:Addr} {u v:HO} (ea:H a=some u) (eb:H b=some v) (n:u≠v):a≠b:=fun z=>by rw [z,eb] at ea; exact n (Option.some.inj ea).symm
theorem RI.pack (h:RI C p L x dx al ae ar ll ch lg H0 hs ls ys th kt rt lk lt ak H) (pk:bM H' p) (s:aZ p H H') (nl:ll≠p) (nL:L≠p):RI C p L x dx al ae ar ll ch lg H0 hs ls ys th kt rt lk lt ak H':=by
 obtain ⟨n,ep,_⟩:=h.pk
 have nt:∀ xs,H p≠some (.tup xs):=fun xs z=>by rw [ep] at z; cases z
 obtain ⟨k1,e1,_⟩:=h.kp.kp
 obtain ⟨k2,e2,_⟩:=h.kp.lt
 obtain ⟨k3,e3,_⟩:=h.kp.en
 obtain ⟨k4,e4,p4⟩:=h.rw
 exact h.chg s nt (.inr rfl) nL (h.kp.frame s (dX ep h.kp.ob (by simp)) (dX ep e1 (by simp)) (dX ep e2 (by simp)) (dX ep e3 (by simp)) nt) (h.rwF s nt (dX e4 ep (by simp))) (h.Ss s nt nl) pk h.n1
end
theorem Eb {th:List Th} {i:Nat} {t:ux} (h:th[i]?=some (.inl t)):bY (th.take (i+1))=bY (th.take i)++[Ri t]/\cM (th.take (i+1))=cM (th.take i):=by
 unfold bY cM
 rw [List.take_add_one,h,List.filterMap_append,List.filterMap_append]
 exact ⟨rfl,by show _++[]=_; rw [List.append_nil]⟩
theorem Ec {th:List Th} {i:Nat} {l:Letter} (h:th[i]?=some (.inr l)):bY (th.take (i+1))=bY (th.take i)/\cM (th.take (i+1))=cM (th.take i)++[l]:=by
 unfold bY cM
 rw [List.take_add_one,h,List.filterMap_append,List.filterMap_append]
 exact ⟨by show _++[]=_; rw [List.append_nil],rfl⟩
theorem Bu {hs:List aJ} {ls:List Letter} {th:List Th} (pt:th.Perm (qM hs ls)) (g:bL hs) (i:Nat):(∀ p∈bY (th.take i),p∈gY hs)/\((bY (th.take i)).map (·.1)).Nodup/\((bY (th.take i)).map (·.2)).Nodup/\(bY (th.take i)).length<=24:=by
 have pk:(bY th).Perm (gY hs):=by rw [<- w6 hs ls]; exact pt.filterMap _
 have sub:(bY (th.take i)).Sublist (bY th):=(List.take_sublist i th).filterMap _
 have n1:((bY th).map (·.1)).Nodup:=(pk.map _).nodup_iff.mpr (by rw [iC]; exact g.rows)
 have n2:((bY th).map (·.2)).Nodup:=(pk.map _).nodup_iff.mpr (DW g)
 refine ⟨fun p hp=>pk.mem_iff.mp (sub.subset hp),(sub.map _).nodup n1,(sub.map _).nodup n2,?_⟩
 have l1:=sub.length_le
 have l2:=pk.length_eq
 have l3:(gY hs).length=(namesOf hs).length:=by rw [<- iC,List.length_map]
 have:=g.few
 omega
theorem Jy {hs:List aJ} {ls:List Letter} {th:List Th} (pt:th.Perm (qM hs ls)) (gl:gF hs ls) (i:Nat):(∀ l∈cM (th.take i),l∈ls)/\((cM (th.take i)).map Prod.fst).Nodup/\(cM (th.take i)).length<=24:=by
 have pk:(cM th).Perm ls:=by
   have z:=pt.filterMap GX
   rw [show (qM hs ls).filterMap GX=ls from xg hs ls] at z
   exact z
 have sub:(cM (th.take i)).Sublist (cM th):=(List.take_sublist i th).filterMap _
 have nl:(ls.map Prod.fst).Nodup:=gl.rise.imp fun {a b} h e=>by rw [e,lU.Im] at h; cases h
 have n1:((cM th).map Prod.fst).Nodup:=(pk.map _).nodup_iff.mpr nl
 refine ⟨fun p hp=>pk.mem_iff.mp (sub.subset hp),(sub.map _).nodup n1,?_⟩
 have l1:=sub.length_le
 have l2:=pk.length_eq
 have:=gl.few
 omega
theorem jx {hs:List aJ} (g:bL hs) (g3:∀ h∈hs,h.runs.length<=3) {p:bH} (hp:p∈gY hs):Good p.1/\Good p.2.1/\p.2.1∈hs.map aJ.name/\(p.2.2.1=1∨p.2.2.1=3∨p.2.2.1=5):=by
 obtain ⟨h,hh,j,hj,r,hr,rfl⟩:=jM.mp hp
 have gh:=g.all h hh
 have j3:=g3 h hh
 refine ⟨(gh.runs _ (getD_mem hj)).names r hr,gh.name,List.mem_map.mpr ⟨h,hh,rfl⟩,?_⟩
 show 2 * (j:Int)+1=1∨2 * (j:Int)+1=3∨2 * (j:Int)+1=5
 omega
theorem zM {hs:List aJ} {l:Letter} (g:bL hs) (gl:ig hs l):l.1.1≠l.1.2:=fun z=>by
 obtain ⟨h1,m1,h2,m2,n1,n2,ne⟩:=gl.Fp
 have a1:=owner g.rows m1 n1
 rw [z,owner g.rows m2 n2] at a1
 exact ne (Option.some.inj a1).symm
theorem pQ {α:Type} {l:List α} {a:α} (h:(l++[a]).Nodup):a ∉ l:=fun m=>(List.nodup_append.mp h).2.2 a m a (List.mem_singleton.mpr rfl) rfl
theorem acn (v:V) (vs:List V):yI (v :: vs) 0=some v:=by simp [yI,R9]
theorem VJ {H:Hp} {lg:V} {hs:List aJ} {ls:List Letter} (h:dD H lg hs ls) (hne:∃ h1 hr1,hs=h1 :: hr1):∃ a y gb c vr wr,lg=.ref a/\H a=some (.tup [.ref gb,y])/\H gb=some (.tup (.ref c :: vr))/\H c=some (.tup (.str (h0 hs) :: wr))/\h0 hs∈hs.map aJ.name:=by
 obtain ⟨h1,hr1,rfl⟩:=hne
 obtain ⟨a,x,y,rfl,ea,⟨b,vb,rfl,eb,pb⟩,_⟩:=h
 cases pb with
 | cons hh _ =>
   obtain ⟨a1,b1,rfl,e1,_⟩:=hh
   exact ⟨a,y,b,a1,_,_,rfl,ea,eb,e1,List.mem_map.mpr ⟨h1,List.mem_cons_self,rfl⟩⟩
def Bv:Sp:=fun vs H Q _=>∃ (p:Addr) (lg:V) (hs:List aJ) (ls:List Letter),vs=[.ref p,lg]/\bM H p/\dD H lg hs ls/\bL hs/\gF hs ls/\(∀ h∈hs,h.runs.length<=3)/\∀ H',aZ p H H'->Q (.bl true) H'
section
variable {P:Program} {w:World} {K:PySem.W.Frag} {mg:Str->Option Value} {base:Heap} {t8 t6 tR tL t9:Tok} {C:Addr}
theorem fJ:bf ["_law_pack_here","_law_ledger_here","_law_house_here","_law_clocks","_law_keeper","_law_rows","_law_letters_here","_law_thing","_law_run","_law_name","_law_reading","_law_found"] ["_law_pack_here","_law_ledger_here"] (aD m7):=⟨rfl,rfl,rfl,by decide +kernel,rfl,by decide +kernel,by decide +kernel⟩
theorem Ro {f Hf sG cX pU lH xr Rp gH nA:Addr} {fd Jz xu dF tX jN qO JB fK jZ:FuncData} (F:mK K "_law_right" "_law_right" m7 f fd) (T:Txt mg t8 t6 tR tL) (TC:KCls K mg C t9)
   (Zc:aO P w K mg base cg 7 Hf Jz ["_law_ledger_here"] FW) (Zd:mg "_law_told_rows" = some (.ref Hf)) (Ze:PySem.W.keepIn K (.ref Hf)=true) (Zf:Binds K Jz ["_law_ledger_here"] [])
   (Ml:aO P w K mg base cg 7 sG xu ["_law_pack_here","_law_things"] rN) (Mp:mg "_law_mixed_up" = some (.ref sG)) (Mq:PySem.W.keepIn K (.ref sG)=true) (Mr:Binds K xu ["_law_pack_here","_law_things"] [])
   (cG:aO P w K mg base cg 7 cX dF ["_law_pack_here","_law_size"] mX) (cH:mg "_law_take" = some (.ref cX)) (cI:PySem.W.keepIn K (.ref cX)=true) (cJ:Binds K dF ["_law_pack_here","_law_size"] [])
   (Hg:aO P w K mg base cg 7 pU tX ["_law_clocks","_law_rows","_law_letters_here"] pP) (Hi:mg "_law_ledger_of" = some (.ref pU)) (Hj:PySem.W.keepIn K (.ref pU)=true) (Hl:Binds K tX ["_law_clocks","_law_rows","_law_letters_here"] [])
   (sI:aO P w K mg base cg 7 lH jN ["self","sent","taken","least","most"] (oA C)) (sJ:Meth K C "letter" lH) (sO:Binds K jN ["self","sent","taken","least","most"] [])
   (Bw:aO P w K mg base cg 7 xr qO ["self","house","run","name","reading"] (Br C)) (Bx:Meth K C "tell" xr) (BJ:Binds K qO ["self","house","run","name","reading"] [])
   (Zg:aO P w K mg base cg 7 Rp JB ["self","house","run","reading"] (GD C)) (Zh:Meth K C "done" Rp) (Zi:Binds K JB ["self","house","run","reading"] [])
   (jy:aO P w K mg base cg 7 gH fK ["self"] (lD C)) (jz:Meth K C "ledger" gH) (jA:Binds K fK ["self"] [])
   (xG:aO P w K mg base cg 6 nA jZ ["self","houses"] (qK C)) (M_K:Mk K C nA) (xH:Binds K jZ ["self","houses"] []):aO P w K mg base cg 8 f fd ["_law_pack_here","_law_ledger_here"] Bv:=by
 refine F.ok fJ (fun vs H Q E h=>?_) (fun cdv A outer s H vs Q E hr h=>?_)
 . obtain ⟨p,lg,hs,ls,rfl,_⟩:=h
   rfl
 . obtain ⟨p,lg,hs,ls,rfl,pk,hlg,gh,gl,g3,q⟩:=h
   have mC:sizeLine=16777216:=sizeLine_eq
   have h6:=gh.hi
   have f24:=gl.few
   refine ⟨_,(au (aR (i:=3) fJ.nd rfl (Or.inl rfl) (bJ bC rfl T.tuple PyProof.Rows.boot_tuple (aj (cB (iH:=aD m7) (own:=["_law_house_here"]) (cap:=[]) (ix:=[]) rfl rfl ⟨rfl,by decide +kernel,by decide +kernel,by decide +kernel,rfl,by decide +kernel⟩ (jh (bI fV (pV 1) aF (fun _ _=>rfl))) (fun b=>(aL (i:=0) (show (["_law_house_here"]:List Str).Nodup by decide +kernel) rfl (Or.inl rfl))) (fun b=>cN) (fun b=>(iT Yh (pV 0) ql (Og aF)))) aq))) (au (aR (i:=4) fJ.nd rfl (Or.inl rfl) (HX M_K xG hr rfl TC.mgC xH .nil aP (aj (pV 3) aq))) (au (aR (i:=5) fJ.nd rfl (Or.inl rfl) jD) (au (aR (i:=6) fJ.nd rfl (Or.inl rfl) (d8 aq)) (au (fZ PassesOwn.never rfl (eG (aM Ml hr rfl Mp Mq Mr .nil aP (aj (pV 0) (aj (bA Nz (aM Zc hr rfl Zd Ze Zf .nil aP (aj (pV 1) aq)) (bJ Ac rfl T.list PyProof.Rows.boot_list (aj (bI fV (pV 1) aF (fun _ _=>rfl)) aq))) aq)))) (aL (i:=7) fJ.nd rfl (Or.inl rfl)) (au (cC (xW (aN gP rfl T.Um PyProof.Rows.boot_isinstance (aj (bI fV (pV 7) aF (fun _ _=>rfl)) (aj (jk (v:=.ty "str") rfl T.str PyProof.Rows.boot_str rfl) aq)))) (au (fM (qm PySem.F.plainAttrs_list PySem.F.slot_list_append PySem.F.type_list_append gB (pV 6) (aj (pV 7) aq))) (aG (cC (lK (HD (jl (pV 4) TC.cl sJ sI hr sO .nil aP (aj (bI fV (pV 7) aF (fun _ _=>rfl)) (aj (bI fV (pV 7) aF (fun _ _=>rfl)) (aj (bI fV (pV 7) aF (fun _ _=>rfl)) (aj (bI fV (pV 7) aF (fun _ _=>rfl)) aq))))))) (aG (bh jR)) aW))) (au (uV (pV 7) (jg rfl (aU (aL (i:=2) fJ.nd rfl (Or.inl rfl)) (aU (aL (i:=8) fJ.nd rfl (Or.inl rfl)) (aU (aL (i:=9) fJ.nd rfl (Or.inl rfl)) (aU (aL (i:=10) fJ.nd rfl (Or.inl rfl)) fX)))))) (au (lQ (cU hr) (pV 5) (pV 9) (bK (aj (pV 2) (aj (pV 8) (aj (pV 10) aq)))) rfl) (aG (cC (qt HW (jl (pV 4) TC.cl Bx Bw hr BJ .nil aP (aj (pV 2) (aj (pV 8) (aj (pV 9) (aj (pV 10) aq))))) jC (bB _)) (aG (bh jR)) aW))))) (au (cC (tG (qt oEq (aM cG hr rfl cH cI cJ .nil aP (aj (pV 0) (aj aF aq))) aF (bB _)) (pw_and1 (lK (HD (jl (pV 4) TC.cl Zh Zg hr Zi .nil aP (aj (bI fV (bI fV (bI fV (pV 1) aF (fun _ _=>rfl)) aF (fun _ _=>rfl)) aF (fun _ _=>rfl)) (aj aF (aj (aM cG hr rfl cH cI cJ .nil aP (aj (pV 0) (aj aF aq))) aq)))))))) (aG (bh jR)) aW) (aG (cC (qt (N6 hr.units) (qg (pV 4) TC.cl jz jy hr jA .nil aP) (aM Hg hr rfl Hi Hj Hl .nil aP (aj (pV 3) (aj (pV 5) (aj (pV 6) aq)))) (bB _)) (aG (bh jR)) aW))))) (au (aR (i:=11) fJ.nd rfl (Or.inl rfl) (qg (pV 4) TC.cl jz jy hr jA .nil aP)) (aG (bh (qu (iG (Fe hr.units) (pV 11) (pV 1) (bB _)) (qu (aN gP rfl T.Um PyProof.Rows.boot_isinstance (aj (pV 11) (aj (jk (v:=.ty "tuple") rfl T.tuple PyProof.Rows.boot_tuple rfl) aq))) (mL (aN (qp rfl) rfl T.all PyProof.Rows.boot_all (aj (cB (iH:=aD m7) (own:=["_law_part"]) (cap:=[]) (ix:=[]) rfl rfl ⟨rfl,by decide +kernel,by decide +kernel,by decide +kernel,rfl,by decide +kernel⟩ (jh (pV 11)) (fun b=>(aL (i:=0) (show (["_law_part"]:List Str).Nodup by decide +kernel) rfl (Or.inl rfl))) (fun b=>cN) (fun b=>(aN gP rfl T.Um PyProof.Rows.boot_isinstance (aj (pV 0) (aj (jk (v:=.ty "tuple") rfl T.tuple PyProof.Rows.boot_tuple rfl) aq))))) aq))))))))))))),?_⟩
   obtain ⟨ga,gx,gy,rfl,eg,⟨gb,vh,rfl,eb,ph⟩,⟨gc,zm,rfl,ec,pl0⟩⟩:=id hlg
   have lh:=ph.length
   refine cP (bW.of eg) (i:=0) (v:=.ref gb) (by rfl) ?_
   refine ⟨gb,rfl,⟨_,bW.of eb⟩,fun D1 Y7=>zF (R':=oW) (F:=fun h h'=>h'=h) (fun s r=>r.ts s.tups) (fun e r=>r.ts (dR e)) Y7 eb (by omega) ph (fun i y h H1 hi ry s1 b Q1 q1=>?_) (fun vc hs1 H1 s1 Vo pvc pfc=>?_)⟩
   . obtain ⟨a1,b1,rfl,e1,_⟩:=ry
     refine ⟨⟨a1,_,rfl,s1 _ _ e1,fun p5 H' e' s'=>?_⟩⟩
     exact q1 _ _ h s' ⟨p5,rfl,e'⟩ rfl
   . have:=lE pfc
     subst this
     refine ⟨D1,vc,rfl,.inl ⟨cT.of Vo,fun p2 hp2=>?_⟩⟩
     have s2:Same H1 (upd H1 p2 (.tup vc)):=(Same.refl H1).upd hp2
     have e2:upd H1 p2 (.tup vc) p2=some (.tup vc):=ao
     generalize hH2:upd H1 p2 (.tup vc)=H2 at s2 e2 ⊢
     clear hH2
     have S2:=s1.trans s2
     have ck2:jJ H2 (.ref p2) hs1:=⟨p2,vc,rfl,e2,aA (fun _ _ z=>oW.ts z s2.tups) pvc⟩
     intro x dx fx fdx ndx
     have WT:Same H2 (upd (upd H2 dx (.own x)) x (.ins C dx [])):=fun b u e=>by rw [aB (aH e fx),aB (aH e fdx)]; exact e
     refine ⟨x,dx,.ref p2,hs1,rfl,ao,ck2.ts WT.tups,gh,fun ak0 al ae H3 fk fl fe yu sm3=>⟨rfl,?_⟩⟩
     have s3:Same H2 H3:=fun b u e=>sm3 b u (aH e fx) (WT _ _ e)
     have S3:=S2.trans s3
     intro ar far
     have s4:Same H3 (upd H3 ar (.dK [])):=(Same.refl H3).upd far
     have e4:upd H3 ar (.dK []) ar=some (.dK []):=ao
     generalize Dy:upd H3 ar (.dK [])=H4 at s4 e4 ⊢
     clear Dy
     refine ⟨Nat.zero_le _,fun ll fll=>?_⟩
     have s5:Same H4 (upd H4 ll (.lst [])):=(Same.refl H4).upd fll
     have e5:upd H4 ll (.lst []) ll=some (.lst []):=ao
     generalize Gs:upd H4 ll (.lst [])=H5 at s5 e5 ⊢
     clear Gs
     have SM:=s4.trans s5
     have S5:=S3.trans SM
     refine ⟨.ref ga,hs1,ls,rfl,hlg.ts S5.tups,gh,fun d6 ws H6 fd6 e6 pw6 s6=>?_⟩
     have S6:=S5.trans s6
     refine cP (bW.of (S6 _ _ eg)) (i:=1) (v:=.ref gc) (by rfl) ?_
     refine ⟨gc,zm,rfl,.inr (bW.of (S6 _ _ ec)),fun l7 fl7=>?_⟩
     have s7:Same H6 (upd H6 l7 (.lst zm)):=(Same.refl H6).upd fl7
     have e7:upd H6 l7 (.lst zm) l7=some (.lst zm):=ao
     generalize Y6:upd H6 l7 (.lst zm)=H7 at s7 e7 ⊢
     clear Y6
     have lw:ws.length<=24:=by
       have z1:=pw6.length
       have z2:(gY hs1).length=(UW hs1).length:=by unfold gY; rw [List.length_map]
       have z3:(gY hs1).length=(namesOf hs1).length:=by rw [<- iC,List.length_map]
       have:=gh.few
       omega
     have lv0:=pl0.length
     refine ⟨d6,l7,ws,zm,rfl,rfl,s7 _ _ e6,e7,by omega,fun c8 fc8=>?_⟩
     have s8:Same H7 (upd H7 c8 (.lst (ws++zm))):=(Same.refl H7).upd fc8
     have e8:upd H7 c8 (.lst (ws++zm)) c8=some (.lst (ws++zm)):=ao
     generalize Y8:upd H7 c8 (.lst (ws++zm))=H8 at s8 e8 ⊢
     clear Y8
     have S68:=s7.trans s8
     have S8:=S6.trans S68
     have S58:=s6.trans S68
     have S38:=SM.trans S58
     have pk8:=mj pk S8
     have fp:∀ {b:Addr} {u:HO},H b=some u->∀ {H':Hp},Same H H'->∀ {c:Addr},H' c=none->c≠b:=fun {b u} e {H'} s' {c} f z=>by rw [z,s' _ _ e] at f; cases f
     obtain ⟨pn,ep,_⟩:=id pk
     have nc8:c8≠p:=fp ep (S6.trans s7) fc8
     refine ⟨p,c8,ws++zm,rfl,pk8,e8,nc8,by rw [List.length_append]; omega,fun L ys H9 fL e9 pm pk9 sb9=>?_⟩
     have Wr:L≠p:=fp ep S8 fL
     have nlp:ll≠p:=fp ep (S3.trans s4) fll
     have Zj:=S58 _ _ e5
     have nlL:ll≠L:=fun z=>by rw [z,fL] at Zj; cases Zj
     have acr:=(s5.trans S58) _ _ e4
     have nt8:∀ xs,H8 p≠some (.tup xs):=fun xs z=>by rw [S8 _ _ ep] at z; cases z
     have t89:bV H8 H9:=fun b xs e=>sb9 b _ (fun z=>nt8 xs (by rw [<- z]; exact e)) e
     have np8:∀ b u,H8 b=some u->(∀ k,u≠.lst k)->p≠b:=fun b u e n z=>by rw [<- z,S8 _ _ ep] at e; exact n _ (Option.some.inj e).symm
     have MN:=yu.same S38
     obtain ⟨k1,ek1,_⟩:=MN.kp
     obtain ⟨k2,ek2,_⟩:=MN.lt
     obtain ⟨k3,SX,_⟩:=MN.en
     have ahE:H ll=none:=(S3.trans s4).free fll
     have ahF:H ar=none:=S3.free far
     have z_x:H x=none:=S2.free fx
     have ahG:H al=none:=(S2.trans WT).free fl
     have ahH:H ae=none:=(S2.trans WT).free fe
     have nae:ar≠ae:=fun z=>by obtain ⟨k0,e0,_⟩:=yu.en; rw [<- z,far] at e0; cases e0
     have ahI:ar≠ak0:=fun z=>by obtain ⟨k0,e0,_⟩:=yu.kp; rw [<- z,far] at e0; cases e0
     -- the things told
     have pth:Paired (yw H8) (ws++zm) (qM hs1 ls):=by
       have m1:∀ {vs:List V} {ts:List ux},Paired (Qc H6) vs ts->Paired (yw H8) vs (ts.map .inl):=fun z=>by
         induction z with
         | nil=>exact .nil
         | cons h _ ih=>exact .cons (Qc.ts h S68.tups) ih
       have m2:∀ {vs:List V} {ts:List Letter},Paired (bx H) vs ts->Paired (yw H8) vs (ts.map .inr):=fun z=>by
         induction z with
         | nil=>exact .nil
         | cons h _ ih=>exact .cons (bx.ts S8.tups h) ih
       exact aY (m1 pw6) (m2 pl0)
     obtain ⟨th,pt,acu⟩:=DX pm pth
     have ri0:RI C p L x dx al ae ar ll (.ref p2) (.ref ga) H hs1 ls ys th (bY (th.take 0)) (bY (th.take 0)) (cM (th.take 0)) (cM (th.take 0)) ak0 H9:=by
       refine ⟨?_,⟨[],sb9 _ _ (Ne.symm (np8 _ _ acr (fun _ z=>by cases z))) acr,by rw [List.take_zero]; exact .nil⟩,⟨[],sb9 _ _ nlp Zj,by rw [List.take_zero]; exact .nil⟩,pk9,e9,(hlg.ts S8.tups).ts t89,aA (fun _ _ z=>yw.ts z t89) acu,ahI,fun b u n e=>sb9 _ _ n (S8 _ _ e)⟩
       rw [List.take_zero]
       exact MN.frame sb9 (np8 _ _ MN.ob (fun _ z=>by cases z)) (np8 _ _ ek1 (fun _ z=>by cases z)) (np8 _ _ ek2 (fun _ z=>by cases z)) (np8 _ _ SX (fun _ z=>by cases z)) nt8
     have hne:∃ h1 hr1,hs1=h1 :: hr1:=by
       cases hs1 with
       | nil=>have:=gh.lo; simp at this
       | cons h1 hr1=>exact ⟨h1,hr1,rfl⟩
     have gN:∀ h∈hs1,Good h.name:=fun h hh=>(gh.all h hh).name
     have gL:∀ l∈ls,Good l.1.1/\Good l.1.2:=fun l hl=>⟨(gl.all l hl).sent,(gl.all l hl).taken⟩
     have lyt:=acu.length
     refine ⟨L,rfl,⟨_,cT.of e9⟩,qd (xs:=ys) (fun i σ H'=>∃ (ak:Addr) (o2 o7 o8 o9 xZ uw:Option V),σ=[some (.ref p),some (.ref ga),o2,some (.ref p2),some (.ref x),some (.ref ar),some (.ref ll),o7,o8,o9,xZ,uw]/\RI C p L x dx al ae ar ll (.ref p2) (.ref ga) H hs1 ls ys th (bY (th.take i)) (bY (th.take i)) (cM (th.take i)) (cM (th.take i)) ak H') ⟨ak0,none,none,none,none,none,none,rfl,ri0⟩ (fun i σ H' _ hz=>by obtain ⟨_,_,_,_,_,_,_,_,ri⟩:=hz; exact cT.of ri.mx) (fun i y σ uH hy hz=>?_) (fun σ uH hz=>?_)⟩
     . obtain ⟨ak,o2,o7,o8,o9,xZ,uw,rfl,ri⟩:=hz
       obtain ⟨t,ht,hat⟩:=bw ri.th hy
       obtain ⟨tr1,tr2,tr3,tr4⟩:=Bu pt gh (i+1)
       obtain ⟨tl1,tl2,tl3⟩:=Jy pt gl (i+1)
       refine ach (fun σ H'=>∃ (ak:Addr) (o2 o7 o8 o9 xZ uw:Option V),σ=[some (.ref p),some (.ref ga),o2,some (.ref p2),some (.ref x),some (.ref ar),some (.ref ll),o7,o8,o9,xZ,uw]/\RI C p L x dx al ae ar ll (.ref p2) (.ref ga) H hs1 ls ys th (bY (th.take (i+1))) (bY (th.take (i+1))) (cM (th.take (i+1))) (cM (th.take (i+1))) ak H') (fun U hU=>?_) (fun σ xQ hz=>?_)
       . cases t with
         | inr l =>
           obtain ⟨es1,es2⟩:=Ec ht
           obtain ⟨a,rfl,ea⟩:=hat
           have gl1:l∈ls:=tl1 l (by rw [es2]; exact List.mem_append_right _ (List.mem_singleton.mpr rfl))
           have gg:=gl.all l gl1
           refine cP (bW.of ea) (i:=1) (v:=.str l.1.2) (by rfl) ?_
           refine ⟨_,_,_,_,rfl,.str _,rfl,?_⟩
           obtain ⟨vl,Tc,pvl⟩:=ri.lt
           have lvl:=pvl.length
           have llt:(cM (th.take (i+1))).length=(cM (th.take i)).length+1:=by rw [es2,List.length_append]; rfl
           refine ⟨.inl ⟨rfl,_,cT.of Tc⟩,ll,vl,.ref a,rfl,rfl,Tc,by omega,?_⟩
           have Ms:aZ ll uH (upd uH ll (.lst (vl++[.ref a]))):=fun b u n e=>by rw [aB n]; exact e
           have VG:upd uH ll (.lst (vl++[.ref a])) ll=some (.lst (vl++[.ref a])):=ao
           generalize Rh:upd uH ll (.lst (vl++[.ref a]))=xQ at Ms VG ⊢
           clear Rh
           have ntl:∀ xs,uH ll≠some (.tup xs):=fun xs z=>by rw [Tc] at z; cases z
           obtain ⟨q1,ek1,_⟩:=ri.kp.kp
           obtain ⟨q2,ek2,_⟩:=ri.kp.lt
           obtain ⟨q3,SX,_⟩:=ri.kp.en
           obtain ⟨q4,ek4,_⟩:=ri.rw
           obtain ⟨q5,ek5,_⟩:=ri.pk
           have VL:=ri.kp.frame Ms (dX Tc ri.kp.ob (by simp)) (dX Tc ek1 (by simp)) (dX Tc ek2 (by simp)) (dX Tc SX (by simp)) ntl
           have Zk:bV uH xQ:=fun b xs e=>Ms b _ (fun z=>ntl xs (by rw [<- z]; exact e)) e
           have mJ:=ri.chg Ms ntl (.inl ahE) (Ne.symm nlL) VL (ri.rwF Ms ntl (dX ek4 Tc (by simp))) ⟨_,VG,aY (aA (fun _ _ z=>bx.ts Zk z) pvl) (.cons ⟨a,rfl,Zk _ _ ea⟩ .nil)⟩ (ri.pkF Ms (Ne.symm nlp)) ri.n1
           have VN:=Zk _ _ ea
           refine ⟨x,dx,_,rfl,VL.ob,by rfl,?_⟩
           refine cP (bW.of VN) (i:=0) (v:=.str l.1.1) (by rfl) ?_
           refine cP (bW.of VN) (i:=1) (v:=.str l.1.2) (by rfl) ?_
           refine cP (bW.of VN) (i:=2) (v:=.int l.2.1) (by rfl) ?_
           refine cP (bW.of VN) (i:=3) (v:=gD l.2.2) (by rfl) ?_
           refine ⟨x,dx,.ref p2,ak,al,ae,hs1,_,_,l,rfl,VL,gg.sent,gg.taken,yX gg,zM gh gg,?_,oE gh gg (fun r hr=>(Bu pt gh i).1 r hr),by omega,fun MP yx sS=>?_⟩
           . rw [es2,List.map_append] at tl2
             exact pQ tl2
           . obtain ⟨q6,Zm,_⟩:=VL.lt
             have nta:∀ xs,xQ al≠some (.tup xs):=fun xs z=>by rw [Zm] at z; cases z
             obtain ⟨q7,ek7,_⟩:=mJ.rw
             obtain ⟨q8,ek8,_⟩:=mJ.pk
             have pW:=mJ.chg sS nta (.inl ahG) (dX mJ.mx Zm (by simp)) yx (mJ.rwF sS nta (dX ek7 Zm (by simp))) (mJ.Ss sS nta (dX VG Zm (by simp))) (mJ.pkF sS (dX ek8 Zm (by simp))) ri.n1
             refine ⟨_,rfl,fP (fun z=>by simp at z) (fun _=>?_)⟩
             refine hU _ _ ⟨ak,_,_,_,_,_,_,rfl,?_⟩
             rw [es1,es2]
             exact pW
         | inl t =>
           obtain ⟨es1,es2⟩:=Eb ht
           obtain ⟨a,rfl,ea⟩:=hat
           have mt:=tr1 (Ri t) (by rw [es1]; exact List.mem_append_right _ (List.mem_singleton.mpr rfl))
           obtain ⟨gt1,gt2,gt3,gt4⟩:=jx gh g3 mt
           refine cP (bW.of ea) (i:=1) (v:=.int t.2.1) (by rfl) ?_
           refine ⟨_,_,_,_,rfl,.int _,rfl,?_⟩
           refine ⟨a,_,rfl,bW.of ea,rfl,_,_,rfl,_,_,rfl,_,_,rfl,_,_,rfl,rfl,?_⟩
           refine ⟨by show 3<=sizeLine; omega,fun T0 hT=>?_⟩
           have SQ:Same uH (upd uH T0 (.tup [.str t.1,.int t.2.1,.int t.2.2.2])):=(Same.refl uH).upd hT
           have VG:upd uH T0 (.tup [.str t.1,.int t.2.1,.int t.2.2.2]) T0=some (.tup [.str t.1,.int t.2.1,.int t.2.2.2]):=ao
           generalize Rh:upd uH T0 (.tup [.str t.1,.int t.2.1,.int t.2.2.2])=xQ at SQ VG ⊢
           clear Rh
           have mJ:=ri.same SQ
           obtain ⟨kvs,ek,BR⟩:=mJ.rw
           have lkk:=BR.length
           have lrt:(bY (th.take (i+1))).length=(bY (th.take i)).length+1:=by rw [es1,List.length_append]; rfl
           refine ⟨ar,_,rfl,qX.k (k:=Sum.inr t.2.2.1) ek (by omega),?_⟩
           have sS:aZ ar xQ (upd xQ ar (.dK (putK kvs (.inr t.2.2.1) (.ref T0)))):=fun b u n e=>by rw [aB n]; exact e
           have Wu:upd xQ ar (.dK (putK kvs (.inr t.2.2.1) (.ref T0))) ar=some (.dK (putK kvs (.inr t.2.2.1) (.ref T0))):=ao
           generalize Rf:upd xQ ar (.dK (putK kvs (.inr t.2.2.1) (.ref T0)))=MP at sS Wu ⊢
           clear Rf
           have ntr:∀ xs,xQ ar≠some (.tup xs):=fun xs z=>by rw [ek] at z; cases z
           obtain ⟨q2,ek2,_⟩:=mJ.kp.lt
           obtain ⟨q5,ek5,_⟩:=mJ.pk
           obtain ⟨q6,Zm,_⟩:=mJ.lt
           have acy:bV xQ MP:=fun b xs e=>sS b _ (fun z=>ntr xs (by rw [<- z]; exact e)) e
           have yx:=mJ.kp.frame sS (dX ek mJ.kp.ob (by simp)) ri.n1 (dX ek ek2 (by simp)) nae ntr
           have nn:t.2.2.1 ∉ (bY (th.take i)).map (·.1):=by
             rw [es1,List.map_append] at tr2
             exact pQ tr2
           have np:(t.1,t.2.1,t.2.2.2) ∉ (bY (th.take i)).map (·.2):=by
             rw [es1,List.map_append] at tr3
             exact pQ tr3
           have pW:=mJ.chg sS ntr (.inl ahF) (dX mJ.mx ek (by simp)) yx ⟨_,Wu,DN (p:=(t.1,t.2.1,t.2.2.2)) BR nn acy (acy _ _ VG)⟩ (mJ.Ss sS ntr (dX Zm ek (by simp))) (mJ.pkF sS (dX ek5 ek (by simp))) ri.n1
           refine ⟨x,dx,_,rfl,yx.ob,by rfl,?_⟩
           have r15:t.2.1=1∨t.2.1=3∨t.2.1=5:=gt4
           refine ⟨x,dx,.ref p2,ak,al,ae,hs1,_,_,t.1,t.2.2.1,t.2.1,t.2.2.2,rfl,yx,gt1,gt2,fun r hr'=>(jx gh g3 ((Bu pt gh i).1 r hr')).2.1,nn,np,gt3,by omega,by omega,by omega,fun l hl=>oE gh (gl.all l ((Jy pt gl i).1 l hl)) (fun r hr'=>tr1 r (by rw [es1]; exact hr')),fun QZ BW fk' ahL Mt=>?_⟩
           have ntx:∀ xs,MP x≠some (.tup xs):=fun xs z=>by rw [yx.ob] at z; cases z
           obtain ⟨q7,ek7,_⟩:=pW.pk
           obtain ⟨q8,ek8,_⟩:=pW.lt
           have mz:=pW.chg Mt ntx (.inl z_x) (dX pW.mx yx.ob (by simp)) ahL (pW.rwF Mt ntx (dX Wu yx.ob (by simp))) (pW.Ss Mt ntx (dX ek8 yx.ob (by simp))) (pW.pkF Mt (dX ek7 yx.ob (by simp))) (aH Wu fk')
           refine ⟨rfl,?_⟩
           refine hU _ _ ⟨QZ,_,_,_,_,_,_,rfl,?_⟩
           rw [es1,es2]
           exact mz
       . obtain ⟨ak,o2,o7,o8,o9,xZ,uw,rfl,ri⟩:=hz
         refine ach (fun σ H'=>∃ (ak:Addr) (o2 o7 o8 o9 xZ uw:Option V),σ=[some (.ref p),some (.ref ga),o2,some (.ref p2),some (.ref x),some (.ref ar),some (.ref ll),o7,o8,o9,xZ,uw]/\RI C p L x dx al ae ar ll (.ref p2) (.ref ga) H hs1 ls ys th (bY (th.take (i+1))) (bY (th.take (i+1))) (cM (th.take (i+1))) (cM (th.take (i+1))) ak H') (fun U hU=>?_) (fun σ MP hz=>?_)
         . refine ⟨p,4,rfl,ri.pk,by decide,by decide,fun d MP d0 d4 ahN sS=>?_⟩
           have pW:=ri.pack ahN sS nlp Wr
           refine fP (fun z=>?_) (fun z=>XQ (hU _ _ ⟨ak,_,_,_,_,_,_,rfl,pW⟩))
           obtain ⟨a0,y0,gb0,c0,vr0,w0',ea0,e1,e2',e3,mh⟩:=VJ pW.lg hne
           cases ea0
           refine ⟨x,dx,_,rfl,pW.kp.ob,by rfl,?_⟩
           refine cP (bW.of e1) (i:=0) (v:=.ref gb0) (by rfl) ?_
           refine cP (bW.of e2') (i:=0) (v:=.ref c0) (acn _ _) ?_
           refine cP (bW.of e3) (i:=0) (v:=.str (h0 hs1)) (acn _ _) ?_
           refine ⟨p,1000,rfl,pW.pk,by decide,by decide,fun d2 BW _ _ ahO Mt=>?_⟩
           have mz:=pW.pack ahO Mt nlp Wr
           refine ⟨x,dx,.ref p2,ak,al,ae,hs1,_,_,d2,rfl,mz.kp,mh,fun H14 ahP VP=>?_⟩
           obtain ⟨q3,SX,_⟩:=mz.kp.en
           have nte:∀ xs,BW ae≠some (.tup xs):=fun xs z=>by rw [SX] at z; cases z
           obtain ⟨q7,ek7,_⟩:=mz.pk
           obtain ⟨q8,ek8,_⟩:=mz.lt
           have ahR:=mz.chg VP nte (.inl ahH) (dX mz.mx SX (by simp)) ahP (mz.rwF VP nte nae) (mz.Ss VP nte (dX ek8 SX (by simp))) (mz.pkF VP (dX ek7 SX (by simp))) ri.n1
           refine ⟨_,rfl,fP (fun z=>by simp at z) (fun _=>?_)⟩
           exact hU _ _ ⟨ak,_,_,_,_,_,_,rfl,ahR⟩
         . obtain ⟨ak,o2,o7,o8,o9,xZ,uw,rfl,ri⟩:=hz
           refine ⟨x,dx,_,rfl,ri.kp.ob,by rfl,?_⟩
           refine ⟨x,dx,.ref p2,ak,al,ae,hs1,_,_,rfl,ri.kp,fun v1 hs' ls' BW la1 ph1 lo1 Ja=>?_⟩
           have mz:=ri.same Ja
           obtain ⟨vl,Tc,pvl⟩:=mz.lt
           refine ⟨.ref p2,ar,ll,hs1,_,_,vl,rfl,mz.kp.ck,h6,mz.rw,by omega,tr2,fun r hr'=>(jx gh g3 (tr1 r hr')).2.2.2,Tc,pvl,by omega,tl2,fun v2 hs2 ls2 H14 la2 ph2 lo2 S9=>?_⟩
           obtain rfl:=gG (F:=pJ _) (fun _ _ _ a b=>oh a b) ph1 ph2
           obtain rfl:=mq lo1 lo2
           have Ho:=oH gN (fun r hr'=>(jx gh g3 (tr1 r hr')).1) (fun l hl=>gL l (tl1 l hl)) ph1 lo1
           refine ⟨_,_,nu (la1.ts S9.tups),nu la2,dY Ho,dY Ho,?_⟩
           rw [uR Ho]
           exact ⟨ak,_,_,_,_,_,_,rfl,mz.same S9⟩
     . obtain ⟨ak,o2,o7,o8,o9,xZ,uw,rfl,ri⟩:=hz
       rw [lyt,List.take_length] at ri
       have prm:(bY th).Perm (gY hs1):=by rw [<- w6 hs1 ls]; exact pt.filterMap _
       have lrm:(cM th).Perm ls:=by
         have z:=pt.filterMap GX
         rw [show (qM hs1 ls).filterMap GX=ls from xg hs1 ls] at z
         exact z
       refine ⟨x,dx,_,rfl,ri.kp.ob,by rfl,?_⟩
       refine ⟨x,dx,.ref p2,ak,al,ae,hs1,_,_,rfl,ri.kp,fun v1 hs' ls' BW la1 ph1 lo1 Ja=>?_⟩
       obtain rfl:=gG (F:=pJ _) (fun _ _ _ a b=>oh a b) ph1 (Bs gh prm)
       obtain rfl:=mq lo1 (Bt gl prm lrm)
       have mz:=ri.same Ja
       have Ho:=oH gN (fun r hr'=>(jx gh g3 (prm.mem_iff.mp hr')).1) (fun l hl=>gL l (lrm.mem_iff.mp hl)) ph1 lo1
       refine ⟨_,_,nu la1,nu mz.lg,dY Ho,dY Ho,?_⟩
       rw [uR Ho]
       obtain ⟨fa,fx',fy,rfl,efa,⟨fb,vfb,rfl,efb,_⟩,⟨fc,vfc,rfl,efc,_⟩⟩:=id la1
       refine ⟨_,_,_,_,rfl,iR.tup efa,rfl,?_⟩
       refine ⟨fa,rfl,⟨_,bW.of efa⟩,fun D fD=>Kq fD (bW.of efa) (by show 2<=sizeLine; omega) (fun j y H14 hj S9 b R hR=>?_) (fun H14 S9 e14=>?_)⟩
       . have:∃ c xs,y=.ref c/\BW c=some (.tup xs):=by
           rcases j with _ | _ | j
           . cases hj; exact ⟨_,_,rfl,efb⟩
           . cases hj; exact ⟨_,_,rfl,efc⟩
           . cases hj
         obtain ⟨c,xs,rfl,ec'⟩:=this
         refine ⟨_,_,_,_,rfl,iR.tup (S9 _ _ ec'),rfl,?_⟩
         exact hR _ (Same.refl _)
       . refine ⟨D,_,rfl,cT.of e14,?_⟩
         rw [show (List.replicate _ true).all id=true from List.all_eq_true.mpr fun b hb=>(List.mem_replicate.mp hb).2]
         exact q _ fun b u n e=>S9 _ _ (mz.sm b u n e)
end
end jQ
namespace jQ
open PySem L2 fW
theorem sU {X:Cx} {es rest:List Expr} {x1 pos} {t:TE} {ts} (h:PE X (.Tuple es x1 pos) t) (h2:PA X rest ts):PA X (.Tuple es x1 pos :: rest) (sZ t ts):=aj h h2
theorem xJ {X:Cx} {c j pos} {rest:List Expr} {t:TE} {ts} (h:PE X (.Constant c j pos) t) (h2:PA X rest ts):PA X (.Constant c j pos :: rest) (sZ t ts):=aj h h2
theorem iD {X:Cx} {es rest:List Expr} {x1 pos} {t:TE} {ts} (h:SE X (.Tuple es x1 pos) t) (h2:SA X rest ts):SA X (.Tuple es x1 pos :: rest) (sZ t ts):=⟨sU h.h h2.h⟩
theorem cA {X:Cx} {c j pos} {rest:List Expr} {t:TE} {ts} (h:SE X (.Constant c j pos) t) (h2:SA X rest ts):SA X (.Constant c j pos :: rest) (sZ t ts):=⟨xJ h.h h2.h⟩
theorem Ed {X:Cx} {C f:Addr} {fd:FuncData} {CX} {k:Nat} {ps} {sp:Sp} {x:Str} {ds tu E t} {es:List Expr} {x1 p1 p pos} (M:Mk X.K C f) (F:aO X.prog X.w X.K X.mg X.base CX k f fd ps sp) (hr:gM (k+1) X.A) (hg:Gl X x) (hm:X.mg x=some (.ref C)) (hb:Binds X.K fd ps ds) (hd:Vals tu ds) (hx:Passes CX X E)
   (ha:SE X (.Tuple es x1 p1) t) (hdb:(x == ("__debug__" : Str))=false:=by decide):SE X (.Call (.Name x p) [.Tuple es x1 p1] [] pos) (Wh C sp tu E (sZ t JX)):=⟨HX M F hr hg hm hb hd hx (sU ha.h aq) hdb rfl rfl⟩
theorem VR {X:Cx} {i:Nat} {x:Str} {es:List Expr} {x1 p1} {te:TE} {pos' pos:Pos} (hN:X.N.Nodup) (hi:X.N[i]?=some x) (hx:Loc X.env.scope x) (he:SE X (.Tuple es x1 p1) te) (hf:X.fn x=true∨X.env.scope.names.lookup x=some .local:=by first | exact .inl rfl | exact .inr rfl | assumption) :
   SS X (.Assign [.Name x pos'] (.Tuple es x1 p1) pos) (JM te (Ce i)):=⟨aR hN hi hx he.h rfl hf⟩
def M4:List aJ:=[⟨"me",0,5,0,[[("me",3)]]⟩,⟨"you",0,5,0,[[("you",1)]]⟩]
def lL:Letter:=(("you","me"),1,some 9)
def V0:List aJ:=[⟨"a",0,0,0,[]⟩]
theorem BK {z:Str} (h:(decide (1<=z.length) && decide (z.length<=8) && z.cps.toList.all low)=true):Good z:=by
 simp only [Bool.and_eq_true,decide_eq_true_eq,List.all_eq_true] at h
 exact ⟨h.1.1,h.1.2,h.2⟩
theorem Mu:Good "me":=BK (by decide +kernel)
theorem Ef:Good "you":=BK (by decide +kernel)
theorem g_a:Good "a":=BK (by decide +kernel)
theorem Rq:("me" : Str)≠"you":=by decide +kernel
theorem acB {n:Str} {i:Int} (g:Good n):Ak [(n,i)]:=⟨by simp,by simp,fun r hr=>by rw [List.mem_singleton.mp hr]; exact g,by simp⟩
theorem Hq:bL M4:=by
 refine ⟨by decide,by decide,fun h hh=>?_,?_,?_,by decide⟩
 . rcases List.mem_cons.mp hh with rfl | hh
   . exact ⟨Mu,by decide,by decide,by decide,fun r hr=>by rw [List.mem_singleton.mp hr]; exact acB Mu⟩
   . rw [List.mem_singleton.mp hh]
     exact ⟨Ef,by decide,by decide,by decide,fun r hr=>by rw [List.mem_singleton.mp hr]; exact acB Ef⟩
 . show (["me","you"]:List Str).Nodup
   decide +kernel
 . show (["me","you"]:List Str).Nodup
   decide +kernel
theorem Zn:bL V0:=by
 refine ⟨by decide,by decide,fun h hh=>?_,by simp [V0],by simp [V0,namesOf,eE,oR],by decide⟩
 rw [List.mem_singleton.mp hh]
 exact ⟨g_a,by decide,by decide,by decide,fun r hr=>by cases hr⟩
theorem Rr:gF M4 [lL]:=by
 refine ⟨by decide,fun l hl=>?_,by simp⟩
 rw [List.mem_singleton.mp hl]
 refine ⟨Ef,Mu,by decide,fun m e=>by cases e; decide,⟨_,List.mem_cons_of_mem _ List.mem_cons_self,_,List.mem_cons_self,?_,?_,fun z=>Rq z.symm⟩⟩
 . exact List.mem_singleton.mpr rfl
 . exact List.mem_singleton.mpr rfl
theorem ahU:∀ h∈M4,h.runs.length<=3:=fun h hh=>by
 rcases List.mem_cons.mp hh with rfl | hh
 . decide
 . rw [List.mem_singleton.mp hh]
   decide
def k1:bH:=("me","me",1,3)
def k2:bH:=("you","you",1,1)
theorem xK:gY M4=[k1,k2]:=by rfl
theorem Rt:gY V0=[]:=by rfl
def Hr:Sp:=fun vs _ Q _=>vs=[]/\∀ H',Q (.bl true) H'
def JC (K:PySem.W.Frag):Sp:=fun vs H Q _=>∃ (a:Addr) (ns:List Int),vs=[.ref a]/\cT K H a (ns.map V.int)/\ns.length<=63/\(∀ n∈ns,Ov n)/\∀ H',Q (.bl true) H'
section
variable {P:Program} {w:World} {K:PySem.W.Frag} {mg:Str->Option Value} {base:Heap} {t8 t6 tR tL t9:Tok} {C:Addr}
theorem BL:bf ["_law_keeper","_law_houses"] [] (aD zf):=⟨rfl,rfl,rfl,by decide +kernel,rfl,by decide +kernel,by decide +kernel⟩
theorem V3 {f lH xr gH nA:Addr} {fd jN qO fK jZ:FuncData} (F:mK K "_law_like_houses" "_law_like_houses" zf f fd) (T:Txt mg t8 t6 tR tL) (TC:KCls K mg C t9)
   (sI:aO P w K mg base cg 7 lH jN ["self","sent","taken","least","most"] (oA C)) (sJ:Meth K C "letter" lH) (sO:Binds K jN ["self","sent","taken","least","most"] [])
   (Bw:aO P w K mg base cg 7 xr qO ["self","house","run","name","reading"] (Br C)) (Bx:Meth K C "tell" xr) (BJ:Binds K qO ["self","house","run","name","reading"] [])
   (jy:aO P w K mg base cg 7 gH fK ["self"] (lD C)) (jz:Meth K C "ledger" gH) (jA:Binds K fK ["self"] [])
   (xG:aO P w K mg base cg 6 nA jZ ["self","houses"] (qK C)) (M_K:Mk K C nA) (xH:Binds K jZ ["self","houses"] []):aO P w K mg base cg 8 f fd [] Hr:=by
 refine F.ok BL (fun vs H Q E h=>?_) (fun cdv A outer s H vs Q E hr h=>?_)
 . obtain ⟨rfl,_⟩:=h
   rfl
 . obtain ⟨rfl,q⟩:=h
   have mC:sizeLine=16777216:=sizeLine_eq
   refine ⟨_,(Yi.h (qx (Yk (i:=0) BL.nd rfl (Or.inl rfl) (Ed M_K xG hr rfl TC.mgC xH .nil aP (fu (iD (fu (cA fB (cA cO (cA cO (cA cO dN))))) (iD (fu (cA fB (cA cO (cA cO (cA cO dN))))) dN))))) (qx (Uh (SE.mk (jl (SE.h (qV 0)) TC.cl sJ sI hr sO .nil aP (SA.h (fQ fB (fQ fB (fQ cO (fQ cO dN)))))))) (qx (abo (afA (qtC ⟨HW⟩ (SE.mk (jl (SE.h (qV 0)) TC.cl Bx Bw hr BJ .nil aP (SA.h (fQ fB (fQ cO (fQ fB (fQ cO dN))))))) fB (bB _)) (Yj (qtC ⟨HW⟩ (SE.mk (jl (SE.h (qV 0)) TC.cl Bx Bw hr BJ .nil aP (SA.h (fQ fB (fQ cO (fQ fB (fQ cO dN))))))) fB (bB _)))) (Io (Ou abn)) Ug) (qx (VR (i:=1) BL.nd rfl (Or.inl rfl) (fu (iD (fu (cA fB (cA cO (cA cO (cA cO (iD (fu (iD (fu (iD (fu (cA fB (cA cO dN))) dN)) dN)) dN)))))) (iD (fu (cA fB (cA cO (cA cO (cA cO (iD (fu (iD (fu (iD (fu (cA fB (cA cO dN))) dN)) dN)) dN)))))) dN)))) (Io (Ou (Ue ⟨Fe hr.units⟩ (SE.mk (qg (SE.h (qV 0)) TC.cl jz jy hr jA .nil aP)) (fu (fQ (qV 1) (iD (fu (iD (fu (cA fB (cA fB (cA cO (cA cO dN))))) dN)) dN))) (bB _))))))))),?_⟩
   refine ⟨by show 4<=sizeLine; omega,fun iZ Zo=>?_⟩
   have Ru:Same H (upd H iZ (.tup [.str "me",.int 0,.int 5,.int 0])):=(Same.refl H).upd Zo
   have Rv:upd H iZ (.tup [.str "me",.int 0,.int 5,.int 0]) iZ=some (.tup [.str "me",.int 0,.int 5,.int 0]):=ao
   generalize Zq:upd H iZ (.tup [.str "me",.int 0,.int 5,.int 0])=A_1 at Ru Rv ⊢
   clear Zq
   refine ⟨by show 4<=sizeLine; omega,fun jO Zr=>?_⟩
   have Rw:Same A_1 (upd A_1 jO (.tup [.str "you",.int 0,.int 5,.int 0])):=(Same.refl A_1).upd Zr
   have Rx:upd A_1 jO (.tup [.str "you",.int 0,.int 5,.int 0]) jO=some (.tup [.str "you",.int 0,.int 5,.int 0]):=ao
   generalize Zt:upd A_1 jO (.tup [.str "you",.int 0,.int 5,.int 0])=A_2 at Rw Rx ⊢
   clear Zt
   refine ⟨by show 2<=sizeLine; omega,fun zN ahV=>?_⟩
   have acC:Same A_2 (upd A_2 zN (.tup [.ref iZ,.ref jO])):=(Same.refl A_2).upd ahV
   have acD:upd A_2 zN (.tup [.ref iZ,.ref jO]) zN=some (.tup [.ref iZ,.ref jO]):=ao
   generalize ahW:upd A_2 zN (.tup [.ref iZ,.ref jO])=A_3 at acC acD ⊢
   clear ahW
   have acF:Same A_3 A_3:=Same.refl _
   have ahX:=acF _ _ acD
   have Ry:=acC.trans acF
   have Zu:=Ry _ _ Rx
   have Rz:=Rw.trans Ry
   have Zv:=Rz _ _ Rv
   have SA:=Ru.trans Rz
   have ck1:jJ A_3 (.ref zN) M4:=⟨_,_,rfl,ahX,.cons ⟨_,rfl,Zv⟩ (.cons ⟨_,rfl,Zu⟩ .nil)⟩
   intro x dx fx fdx ndx
   have WT:Same A_3 (upd (upd A_3 dx (.own x)) x (.ins C dx [])):=fun b u e=>by rw [aB (aH e fx),aB (aH e fdx)]; exact e
   refine ⟨x,dx,.ref zN,M4,rfl,ao,ck1.ts WT.tups,Hq,fun ak al ae H1 fk fl fe Gx sm1=>⟨rfl,?_⟩⟩
   refine ⟨x,dx,_,rfl,Gx.ob,by rfl,?_⟩
   have gg:=Rr.all lL List.mem_cons_self
   refine ⟨x,dx,_,ak,al,ae,M4,[],[],lL,rfl,Gx,gg.sent,gg.taken,yX gg,zM Hq gg,by simp,oE Hq gg (fun r hr=>by cases hr),by decide,fun H2 Q0 MK=>?_⟩
   refine ⟨x,dx,_,rfl,Q0.ob,by rfl,?_⟩
   have wi:∀ kt:List bH,(∀ p∈kt,p∈gY M4)->∀ l∈([]++[lL]:List Letter),dJ (ktM kt) l.1.1 l.1.2=false:=fun kt sub l hl=>oE Hq (Rr.all l hl) sub
   refine ⟨x,dx,_,ak,al,ae,M4,[],[]++[lL],"me","me",1,3,rfl,Q0,Mu,Mu,fun p hp=>(by cases hp),by simp,by simp,List.mem_cons_self,by decide,by decide,by decide,wi _ (fun p hp=>by rw [xK]; exact List.mem_cons.mpr (.inl (List.mem_singleton.mp hp))),fun ak3 H3 fk3 yu sb3=>?_⟩
   refine ⟨rfl,?_⟩
   refine ⟨x,dx,_,rfl,yu.ob,by rfl,?_⟩
   refine ⟨x,dx,_,ak3,al,ae,M4,[]++[k1],[]++[lL],"you","you",1,1,rfl,yu,Ef,Ef,fun p hp=>(by rw [List.mem_singleton.mp hp]; exact Mu),fun z=>Rq (List.mem_singleton.mp z).symm,fun z=>Rq (congrArg Prod.fst (List.mem_singleton.mp z)).symm,List.mem_cons_of_mem _ List.mem_cons_self,by decide,by decide,by decide,wi _ (fun p hp=>by rw [xK]; exact hp),fun ak5 H5 fk5 Ly sb5=>?_⟩
   refine ⟨rfl,?_⟩
   refine ⟨by show 2<=sizeLine; omega,fun jc Zw=>?_⟩
   have RB:Same H5 (upd H5 jc (.tup [.str "me",.int 3])):=(Same.refl H5).upd Zw
   have RG:upd H5 jc (.tup [.str "me",.int 3]) jc=some (.tup [.str "me",.int 3]):=ao
   generalize Zx:upd H5 jc (.tup [.str "me",.int 3])=B_1 at RB RG ⊢
   clear Zx
   refine ⟨by show 1<=sizeLine; omega,fun jd Zy=>?_⟩
   have RJ:Same B_1 (upd B_1 jd (.tup [.ref jc])):=(Same.refl B_1).upd Zy
   have RK:upd B_1 jd (.tup [.ref jc]) jd=some (.tup [.ref jc]):=ao
   generalize Zz:upd B_1 jd (.tup [.ref jc])=RL at RJ RK ⊢
   clear Zz
   refine ⟨by show 1<=sizeLine; omega,fun je ZC=>?_⟩
   have RM:Same RL (upd RL je (.tup [.ref jd])):=(Same.refl RL).upd ZC
   have RN:upd RL je (.tup [.ref jd]) je=some (.tup [.ref jd]):=ao
   generalize ZD:upd RL je (.tup [.ref jd])=RP at RM RN ⊢
   clear ZD
   refine ⟨by show 5<=sizeLine; omega,fun jf ZF=>?_⟩
   have RQ:Same RP (upd RP jf (.tup [.str "me",.int 0,.int 5,.int 0,.ref je])):=(Same.refl RP).upd ZF
   have RT:upd RP jf (.tup [.str "me",.int 0,.int 5,.int 0,.ref je]) jf=some (.tup [.str "me",.int 0,.int 5,.int 0,.ref je]):=ao
   generalize ZG:upd RP jf (.tup [.str "me",.int 0,.int 5,.int 0,.ref je])=RV at RQ RT ⊢
   clear ZG
   refine ⟨by show 2<=sizeLine; omega,fun j4 ZJ=>?_⟩
   have RW:Same RV (upd RV j4 (.tup [.str "you",.int 1])):=(Same.refl RV).upd ZJ
   have RX:upd RV j4 (.tup [.str "you",.int 1]) j4=some (.tup [.str "you",.int 1]):=ao
   generalize ZK:upd RV j4 (.tup [.str "you",.int 1])=V4 at RW RX ⊢
   clear ZK
   refine ⟨by show 1<=sizeLine; omega,fun tY ahZ=>?_⟩
   have acG:Same V4 (upd V4 tY (.tup [.ref j4])):=(Same.refl V4).upd ahZ
   have acH:upd V4 tY (.tup [.ref j4]) tY=some (.tup [.ref j4]):=ao
   generalize ah0:upd V4 tY (.tup [.ref j4])=B_6 at acG acH ⊢
   clear ah0
   refine ⟨by show 1<=sizeLine; omega,fun tZ ah1=>?_⟩
   have acJ:Same B_6 (upd B_6 tZ (.tup [.ref tY])):=(Same.refl B_6).upd ah1
   have acK:upd B_6 tZ (.tup [.ref tY]) tZ=some (.tup [.ref tY]):=ao
   generalize ah2:upd B_6 tZ (.tup [.ref tY])=B_7 at acJ acK ⊢
   clear ah2
   refine ⟨by show 5<=sizeLine; omega,fun uc ah3=>?_⟩
   have acM:Same B_7 (upd B_7 uc (.tup [.str "you",.int 0,.int 5,.int 0,.ref tZ])):=(Same.refl B_7).upd ah3
   have acN:upd B_7 uc (.tup [.str "you",.int 0,.int 5,.int 0,.ref tZ]) uc=some (.tup [.str "you",.int 0,.int 5,.int 0,.ref tZ]):=ao
   generalize ah4:upd B_7 uc (.tup [.str "you",.int 0,.int 5,.int 0,.ref tZ])=B_8 at acM acN ⊢
   clear ah4
   refine ⟨by show 2<=sizeLine; omega,fun ud ah5=>?_⟩
   have acP:Same B_8 (upd B_8 ud (.tup [.ref jf,.ref uc])):=(Same.refl B_8).upd ah5
   have acQ:upd B_8 ud (.tup [.ref jf,.ref uc]) ud=some (.tup [.ref jf,.ref uc]):=ao
   generalize ah6:upd B_8 ud (.tup [.ref jf,.ref uc])=B_9 at acP acQ ⊢
   clear ah6
   have acR:Same B_9 B_9:=Same.refl _
   have ah7:=acR _ _ acQ
   have acS:=acP.trans acR
   have ah8:=acS _ _ acN
   have acT:=acM.trans acS
   have ah9:=acT _ _ acK
   have acU:=acJ.trans acT
   have aia:=acU _ _ acH
   have RZ:=acG.trans acU
   have ZL:=RZ _ _ RX
   have R0:=RW.trans RZ
   have ZM:=R0 _ _ RT
   have R3:=RQ.trans R0
   have ZP:=R3 _ _ RN
   have R4:=RM.trans R3
   have ZQ:=R4 _ _ RK
   have R5:=RJ.trans R4
   have ZR:=R5 _ _ RG
   have SB:=RB.trans R5
   refine ⟨x,dx,_,rfl,SB _ _ Ly.ob,by rfl,?_⟩
   refine ⟨x,dx,_,ak5,al,ae,M4,[k1,k2],[lL],rfl,Ly.same SB,fun v hs' ls' H6 la ph lo s6=>?_⟩
   obtain rfl:=gG (F:=pJ _) (fun _ _ _ a b=>oh a b) ph (Bs Hq (by rw [xK]))
   obtain rfl:=mq lo (Bt Rr (by rw [xK]) (.refl _))
   refine ⟨by show 4<=sizeLine; omega,fun uf aib=>?_⟩
   have acV:Same H6 (upd H6 uf (.tup [.str "you",.str "me",.int 1,.int 9])):=(Same.refl H6).upd aib
   have acW:upd H6 uf (.tup [.str "you",.str "me",.int 1,.int 9]) uf=some (.tup [.str "you",.str "me",.int 1,.int 9]):=ao
   generalize aic:upd H6 uf (.tup [.str "you",.str "me",.int 1,.int 9])=D_1 at acV acW ⊢
   clear aic
   refine ⟨by show 1<=sizeLine; omega,fun ug aie=>?_⟩
   have acX:Same D_1 (upd D_1 ug (.tup [.ref uf])):=(Same.refl D_1).upd aie
   have acY:upd D_1 ug (.tup [.ref uf]) ug=some (.tup [.ref uf]):=ao
   generalize aif:upd D_1 ug (.tup [.ref uf])=D_2 at acX acY ⊢
   clear aif
   refine ⟨by show 2<=sizeLine; omega,fun Eh aii=>?_⟩
   have ac0:Same D_2 (upd D_2 Eh (.tup [.ref ud,.ref ug])):=(Same.refl D_2).upd aii
   have ac1:upd D_2 Eh (.tup [.ref ud,.ref ug]) Eh=some (.tup [.ref ud,.ref ug]):=ao
   generalize aij:upd D_2 Eh (.tup [.ref ud,.ref ug])=D_3 at ac0 ac1 ⊢
   clear aij
   have ac2:Same D_3 D_3:=Same.refl _
   have ail:=ac2 _ _ ac1
   have ac3:=ac0.trans ac2
   have ain:=ac3 _ _ acY
   have ac4:=acX.trans ac3
   have aio:=ac4 _ _ acW
   have SD:=acV.trans ac4
   have Ho:=oH (fun h hh=>(Hq.all h hh).name) (fun p hp=>(jx Hq ahU (by rw [xK]; exact hp)).1) (fun l hl=>⟨(Rr.all l hl).sent,(Rr.all l hl).taken⟩) ph lo
   have t6:=(s6.trans SD).tups
   have la2:dD D_3 (.ref Eh) M4 [lL]:=⟨_,_,_,rfl,ail,⟨_,_,rfl,t6 _ _ ah7,.cons ⟨_,_,rfl,t6 _ _ ZM,⟨_,_,rfl,t6 _ _ ZP,.cons ⟨_,_,rfl,t6 _ _ ZQ,.cons ⟨_,rfl,t6 _ _ ZR⟩ .nil⟩ .nil⟩⟩ (.cons ⟨_,_,rfl,t6 _ _ ah8,⟨_,_,rfl,t6 _ _ ah9,.cons ⟨_,_,rfl,t6 _ _ aia,.cons ⟨_,rfl,t6 _ _ ZL⟩ .nil⟩ .nil⟩⟩ .nil)⟩,⟨_,_,rfl,ain,.cons ⟨_,rfl,aio⟩ .nil⟩⟩
   refine ⟨_,_,nu (la.ts SD.tups),nu la2,dY Ho,dY Ho,?_⟩
   rw [uR Ho]
   exact q _
theorem R6:bf ["_law_script","_law_k"] ["_law_script"] (aD Ay):=⟨rfl,rfl,rfl,by decide +kernel,rfl,by decide +kernel,by decide +kernel⟩
theorem ZS {f BP pG pX Hs gH nA:Addr} {fd Ei qC uh JD fK jZ:FuncData} (F:mK K "law" "law" Ay f fd) (T:Txt mg t8 t6 tR tL) (TC:KCls K mg C t9)
   (V5:aO P w K mg base cg 8 BP Ei ["_law_pack_here","_law_ledger_here"] Bv) (V6:mg "_law_right" = some (.ref BP)) (V7:PySem.W.keepIn K (.ref BP)=true) (V8:Binds K Ei ["_law_pack_here","_law_ledger_here"] [])
   (vZ:aO P w K mg base cg 8 pG qC ["_law_script","_law_k"] (Aq K)) (v8:mg "_law_pack" = some (.ref pG)) (v9:PySem.W.keepIn K (.ref pG)=true) (wg:Binds K qC ["_law_script","_law_k"] [])
   (Ht:aO P w K mg base cg 8 pX uh ["_law_script","_law_k"] (pF K)) (Hu:mg "_law_ledger" = some (.ref pX)) (Hv:PySem.W.keepIn K (.ref pX)=true) (Hw:Binds K uh ["_law_script","_law_k"] [])
   (ZV:aO P w K mg base cg 8 Hs JD [] Hr) (ZW:mg "_law_like_houses" = some (.ref Hs)) (ZX:PySem.W.keepIn K (.ref Hs)=true) (Z0:Binds K JD [] [])
   (jy:aO P w K mg base cg 8 gH fK ["self"] (lD C)) (jz:Meth K C "ledger" gH) (jA:Binds K fK ["self"] [])
   (xG:aO P w K mg base cg 7 nA jZ ["self","houses"] (qK C)) (M_K:Mk K C nA) (xH:Binds K jZ ["self","houses"] []):aO P w K mg base cg 9 f fd ["_law_script"] (JC K):=by
 refine F.ok R6 (fun vs H Q E h=>?_) (fun cdv A outer s H vs Q E hr h=>?_)
 . obtain ⟨a,ns,rfl,_⟩:=h
   rfl
 . obtain ⟨a,ns,rfl,ha,hl,hb,q⟩:=h
   have mC:sizeLine=16777216:=sizeLine_eq
   refine ⟨_,(au (fZ PassesOwn.never rfl (Kf rfl T.range (aj aF (aj (aN (yD rfl) rfl T.max PyProof.Rows.boot_max (aj aF (aj (aN (JR rfl) rfl T.min PyProof.Rows.boot_min (aj (aN bZ rfl T.len PySem.boot_len (aj (pV 0) aq)) (aj aF aq))) aq))) (aj aF aq)))) (aL (i:=1) R6.nd rfl (Or.inl rfl)) (aG (cC (dH (xW (aM V5 hr rfl V6 V7 V8 .nil aP (aj (aM vZ hr rfl v8 v9 wg .nil aP (aj (pV 0) (aj (bA iV (pV 1) aF) aq))) (aj (aM Ht hr rfl Hu Hv Hw .nil aP (aj (pV 0) (aj (pV 1) aq))) aq))))) (aG (bh jR)) aW))) (aG (bh (qu (Nr ZV hr rfl ZW ZX Z0 .nil aP) (mL (iG (Fe hr.units) (qg (SE.h (Ed M_K xG hr rfl TC.mgC xH .nil aP (fu (iD (fu (cA fB (cA cO (cA cO (cA cO dN))))) dN)))) TC.cl jz jy hr jA .nil aP) (bK (sU (bK (sU (bK (xJ jC (xJ aF (xJ aF (xJ aF (sU (bK aq) aq)))))) aq)) (sU (bK aq) aq))) (bB _))))))),?_⟩
   refine ⟨a,_,rfl,.inl ha,?_⟩
   refine ⟨_,24,rfl,?_⟩
   refine ⟨1,_,rfl,?_⟩
   obtain ⟨mx,emx,mx1,mx2⟩:∃ mx:Int,mx=(if (if (24:Int)<((ns.map V.int).length:Int) then 24 else ((ns.map V.int).length:Int)) > 1 then (if (24:Int)<((ns.map V.int).length:Int) then 24 else ((ns.map V.int).length:Int)) else 1)/\1<=mx/\mx<=24:=⟨_,rfl,by split <;> omega,by split <;> (try split) <;> omega⟩
   rw [<- emx]
   have en:Builtin.Range.rangeSize 0 mx 8<=3:=by
     unfold Builtin.Range.rangeSize
     rw [if_pos (by decide),if_pos (by omega)]
     omega
   refine ⟨0,mx,8,rfl,⟨by decide,by decide,by omega,by omega,by decide,by decide⟩,Fy (fun i σ H'=>∃ o1:Option V,σ=[some (.ref a),o1]/\Same H H') ⟨none,rfl,Same.refl H⟩ (fun i σ H1 hi hz=>?_) (fun σ H1 hz=>?_)⟩
   . obtain ⟨o1,rfl,S1⟩:=hz
     refine ⟨a,ns,0+(i:Int) * 8+6,rfl,qy S1 ha,hb,hl,by omega,by omega,fun p H3 fp pk s3=>?_⟩
     have S3:=S1.trans s3
     have fpH:H p=none:=S1.free fp
     refine ⟨a,ns,0+(i:Int) * 8,rfl,qy S3 ha,hb,hl,by omega,by omega,fun x0 hs0 ls0 H4 lat gh gl nm gw nl s4=>?_⟩
     refine ⟨p,x0,hs0,ls0,rfl,mj pk s4,lat,gh,gl,fun h hh=>(gw h hh).afN,fun H5 sb5=>?_⟩
     exact ⟨_,rfl,mY (S3.trans s4) fpH sb5⟩
   . obtain ⟨o1,rfl,S1⟩:=hz
     refine ⟨rfl,fun H2=>?_⟩
     refine ⟨by show 4<=sizeLine; omega,fun iZ Zo=>?_⟩
     have Ru:Same H2 (upd H2 iZ (.tup [.str "a",.int 0,.int 0,.int 0])):=(Same.refl H2).upd Zo
     have Rv:upd H2 iZ (.tup [.str "a",.int 0,.int 0,.int 0]) iZ=some (.tup [.str "a",.int 0,.int 0,.int 0]):=ao
     generalize Zq:upd H2 iZ (.tup [.str "a",.int 0,.int 0,.int 0])=A_1 at Ru Rv ⊢
     clear Zq
     refine ⟨by show 1<=sizeLine; omega,fun jO Zr=>?_⟩
     have Rw:Same A_1 (upd A_1 jO (.tup [.ref iZ])):=(Same.refl A_1).upd Zr
     have Rx:upd A_1 jO (.tup [.ref iZ]) jO=some (.tup [.ref iZ]):=ao
     generalize Zt:upd A_1 jO (.tup [.ref iZ])=A_2 at Rw Rx ⊢
     clear Zt
     have Ry:Same A_2 A_2:=Same.refl _
     have Zu:=Ry _ _ Rx
     have Rz:=Rw.trans Ry
     have Zv:=Rz _ _ Rv
     have SA:=Ru.trans Rz
     have ck1:jJ A_2 (.ref jO) V0:=⟨_,_,rfl,Zu,.cons ⟨_,rfl,Zv⟩ .nil⟩
     intro x dx fx fdx ndx
     have WT:Same A_2 (upd (upd A_2 dx (.own x)) x (.ins C dx [])):=fun b u e=>by rw [aB (aH e fx),aB (aH e fdx)]; exact e
     refine ⟨x,dx,.ref jO,V0,rfl,ao,ck1.ts WT.tups,Zn,fun ak al ae H3 fk fl fe Gx sm1=>⟨rfl,?_⟩⟩
     refine ⟨x,dx,_,rfl,Gx.ob,by rfl,?_⟩
     refine ⟨x,dx,_,ak,al,ae,V0,[],[],rfl,Gx,fun v hs' ls' H4 la ph lo s4=>?_⟩
     obtain rfl:=gG (F:=pJ _) (fun _ _ _ a b=>oh a b) ph (Bs Zn (by rw [Rt]))
     obtain rfl:=mq lo (Bt (hs:=V0) ⟨Nat.zero_le _,fun l hl=>(by cases hl),.nil⟩ (by rw [Rt]) (.refl _))
     refine ⟨Nat.zero_le _,fun jc Zw=>?_⟩
     have RB:Same H4 (upd H4 jc (.tup [])):=(Same.refl H4).upd Zw
     have RG:upd H4 jc (.tup []) jc=some (.tup []):=ao
     generalize Zx:upd H4 jc (.tup [])=B_1 at RB RG ⊢
     clear Zx
     refine ⟨by show 5<=sizeLine; omega,fun jd Zy=>?_⟩
     have RJ:Same B_1 (upd B_1 jd (.tup [.str "a",.int 0,.int 0,.int 0,.ref jc])):=(Same.refl B_1).upd Zy
     have RK:upd B_1 jd (.tup [.str "a",.int 0,.int 0,.int 0,.ref jc]) jd=some (.tup [.str "a",.int 0,.int 0,.int 0,.ref jc]):=ao
     generalize Zz:upd B_1 jd (.tup [.str "a",.int 0,.int 0,.int 0,.ref jc])=RL at RJ RK ⊢
     clear Zz
     refine ⟨by show 1<=sizeLine; omega,fun je ZC=>?_⟩
     have RM:Same RL (upd RL je (.tup [.ref jd])):=(Same.refl RL).upd ZC
     have RN:upd RL je (.tup [.ref jd]) je=some (.tup [.ref jd]):=ao
     generalize ZD:upd RL je (.tup [.ref jd])=RP at RM RN ⊢
     clear ZD
     refine ⟨Nat.zero_le _,fun jf ZF=>?_⟩
     have RQ:Same RP (upd RP jf (.tup [])):=(Same.refl RP).upd ZF
     have RT:upd RP jf (.tup []) jf=some (.tup []):=ao
     generalize ZG:upd RP jf (.tup [])=RV at RQ RT ⊢
     clear ZG
     refine ⟨by show 2<=sizeLine; omega,fun j4 ZJ=>?_⟩
     have RW:Same RV (upd RV j4 (.tup [.ref je,.ref jf])):=(Same.refl RV).upd ZJ
     have RX:upd RV j4 (.tup [.ref je,.ref jf]) j4=some (.tup [.ref je,.ref jf]):=ao
     generalize ZK:upd RV j4 (.tup [.ref je,.ref jf])=V4 at RW RX ⊢
     clear ZK
     have RZ:Same V4 V4:=Same.refl _
     have ZL:=RZ _ _ RX
     have R0:=RW.trans RZ
     have ZM:=R0 _ _ RT
     have R3:=RQ.trans R0
     have ZP:=R3 _ _ RN
     have R4:=RM.trans R3
     have ZQ:=R4 _ _ RK
     have R5:=RJ.trans R4
     have ZR:=R5 _ _ RG
     have SB:=RB.trans R5
     have Ho:=oH (fun h hh=>(Zn.all h hh).name) (fun p hp=>(by cases hp)) (fun l hl=>(by cases hl)) ph lo
     have la2:dD V4 (.ref j4) V0 []:=⟨_,_,_,rfl,ZL,⟨_,_,rfl,ZP,.cons ⟨_,_,rfl,ZQ,⟨_,_,rfl,ZR,.nil⟩⟩ .nil⟩,⟨_,_,rfl,ZM,.nil⟩⟩
     refine ⟨_,_,nu (la.ts SB.tups),nu la2,dY Ho,dY Ho,?_⟩
     rw [uR Ho]
     exact q _
end
end jQ
namespace jQ
open PySem L2 fW
theorem xM:∀ {xs:List PySem.W.WData} {x:PySem.W.WData},x∈xs->PySem.W.WData.weight x<=PySem.W.WData.weightAll xs
 | y :: xs,x,h=>by
   unfold PySem.W.WData.weightAll
   rcases List.mem_cons.mp h with z | z
   . rw [z]; omega
   . have:=xM z; omega
theorem V9 {ns:List Int} (h:PySem.W.WData.layableAll [PySem.W.WData.list (ns.map PySem.W.WData.int)]=true):∀ n∈ns,Ov n:=fun n hn=>by
 have h1:=List.all_eq_true.mp h _ List.mem_cons_self
 unfold PySem.W.WData.layable at h1
 have h2:=of_decide_eq_true (Bool.and_eq_true_iff.mp h1).2
 unfold PySem.W.WData.weight at h2
 have h3:=xM (List.mem_map_of_mem (f:=PySem.W.WData.int) hn)
 unfold PySem.W.WData.weight at h3
 have e:(2:Nat) ^ 20=1048576:=by decide
 rw [e] at h2
 exact Nat.le_trans h3 h2
theorem Mv {l:PySem.W.OpenLaw} {n k:Nat} {q:Program} {loose:List Str} {XP:(Str->Option Value)->Heap->Prop} {YP:World->Heap->Prop} {d:DefRec} {K:Params->PySem.W.Frag} {CX:World->Mx} {sp:World->Sp} {x:Str}
   (hn:l.most=some n) (hn2:n<=sizeLine) (hdf:d.params.defaults=[]) (hr:gM k callerA) (hY:∀ (w:World) (h:Heap),YP w h->(K w.params).In h)
   (F:∀ (w:World) (mg:Str->Option Value) (fa:Addr) (h:Heap),(K w.params).In h->h.Ns mainGlobals mg->mg d.name=some (.ref fa) ->
     ∃ fd:FuncData,(∀ (s:Shared) (u:Value),BindsTo s fd ⟨[u],[]⟩ [(x,u)])/\∀ base:Heap,(K w.params).In base->base.Ns mainGlobals mg->aO l.prog w (K w.params) mg base (CX w) k fa fd [x] (sp w))
   (hsp:∀ (w:World) (H:Hp) (a:Addr) (ns:List Int),ns.length<=n->(∀ m∈ns,Ov m)->Only H->cT (K w.params) H a (ns.map V.int)->sp w [.ref a] H (fun v _=>v=.bl true) fun _ _ _=>False)
   (hCX:∀ (w:World) (H:Hp) (s:Shared) (e:Value) (s':Shared),CX w [] H s (fun _ _ _=>False) e s'->False):PySem.W.WalkO q loose XP YP l.row.toRowW d [] (fun f vs=>PySem.call f vs):=by
 intro w s₀ s₁ mg mb G Y fa o pm cd doc dV kV ho hd hcd hD hmg hg args vals as hpre hlay hrd hwl hlo
 obtain rfl:dV=.none:=PySem.W.Dflts.none hD hdf
 obtain rfl:kV=.none:=PySem.W.Dflts.noKw hD
 obtain ⟨a,vs,ns,rfl,rfl,hobj,hints,hlen⟩:=Att.J4 hn hpre hwl
 have KX:=hY w _ Y
 obtain ⟨fd,hb,hF⟩:=F w mg fa _ KX G.T.g hmg
 have key:=NT KX G.T.g G.T.b G.T.builtins G.T.nolimit hg hobj hints (Nat.le_trans hlen hn2) hr hF hb (fun H hO hS=>hsp w H a ns hlen (V9 hlay) hO hS) fun H e s'=>hCX w H s₁ e s'
 refine PySem.W.enter_call (codeAny_mono key fun r s' hq=>?_)
 obtain ⟨rfl,h2,h3,h4⟩:=hq
 exact ⟨.inl ⟨.bool true,.bool true,[],rfl,fun _=>rfl,.bool true,Att.J5 l _,fun _=>⟨List.Pairwise.nil,fun _ hm=>(nomatch hm)⟩⟩,h2,h3,h4⟩
theorem all_mk {l:PySem.W.OpenLaw} {w:World} {K:PySem.W.Frag} {h:Heap} {mg:Str->Option Value} {fa C f1 f2 f3 f4 f5 f6 f7 f8 f9 f10 f11 f12 f13 f14 f15 f16 f17 f18 f19 f20 f21 f22 f23 f24 f25 f26 f27 f28 f29 f30 f31:Addr} {t8 t6 tR tL t9:Tok} (X:K.In h) (G:h.Ns mainGlobals mg) (hfa:mg "law" = some (.ref fa))
   {od1 an1 od2 an2 od3 an3 od4 an4 od5 an5 od6 an6 od7 an7 od8 an8 od9 an9 aiq air ais ait aiu aiv aiw aix aiy aiz aiA aiB aiC aiD aiE aiF aiG aiH aiI aiJ aiK aiL aiM aiN aiO aiP aiQ aiR aiS aiT aiU aiV aiW aiX aiY aiZ ai0 ai1 ai2 ai3 ai4 ai5 ai6 ada:Option Addr} {sl1 sl2 sl3 sl4 sl5 sl6 sl7 sl8 sl9 ai7 ai8 ai9 aja ajb ajc ajd aje ajf ajg ajh aji ajj ajk ajl ajm ajn ajo ajp ajq ajr ajs:Array (Option Value)} {oc1 kV1 dc1 pm1 cd1 ct1 oc2 kV2 dc2 pm2 cd2 ct2 oc3 kV3 dc3 Vp cd3 ct3 oc4 kV4 dc4 pm4 cd4 ct4 oc5 kV5 dc5 pm5 cd5 ct5 oc6 kV6 dc6 pm6 cd6 ct6 oc7 kV7 dc7 pm7 cd7 ct7 oc8 kV8 dc8 pm8 cd8 ct8 oc9 kV9 dc9 pm9 cd9 ct9 ajt aju ajv ajw adb ajx ajy ajz ajA ajB ade ajC ajD ajE ajF ajG adf ajH ajI ajJ ajK ajL adg ajM ajN ajO ajP ajQ adh ajR ajS ajT ajU ajV adi ajW ajX ajY ajZ aj0 adk aj1 aj2 aj3 aj4 aj5 adl aj6 aj7 aj8 aj9 akb adn akc akd ake akf akg ado akh aki akj akk akl adp akm akn ako akp akq adq akr aks akt aku akv adt akx aky akz akA akB adu akC akD akE akF akG adv akH akI akJ akK akL adw akM akN akO akP akQ adx akR akS akT akU akV ady akW akX akY akZ ak1 adz ak2 ak4 ak6 ak7 ak8 adA ak9 ala alb alc ald adB ale alf adC adD adE Z1 adF:Value}
   (a1:PySem.W.nsIn K mainGlobals "is_whole" = some (some (.ref f1)))
   (l1:K.lookup f1=some ⟨oc1,od1,.func (PySem.W.fnOf "is_whole" "is_whole" (aX rC) (aV rC) (aD rC) .none kV1 dc1 pm1 an1 cd1 ct1),sl1⟩) (c1:PySem.W.codeIn K cd1 "is_whole" = true) (k1:PySem.W.keepIn K (.ref f1)=true)
   (a2:PySem.W.nsIn K mainGlobals "is_name" = some (some (.ref f2)))
   (l2:K.lookup f2=some ⟨oc2,od2,.func (PySem.W.fnOf "is_name" "is_name" (aX vR) (aV vR) (aD vR) .none kV2 dc2 pm2 an2 cd2 ct2),sl2⟩) (c2:PySem.W.codeIn K cd2 "is_name" = true) (k2:PySem.W.keepIn K (.ref f2)=true)
   (a3:PySem.W.nsIn K mainGlobals "has_parts" = some (some (.ref f3)))
   (l3:K.lookup f3=some ⟨oc3,od3,.func (PySem.W.fnOf "has_parts" "has_parts" (aX rD) (aV rD) (aD rD) .none kV3 dc3 Vp an3 cd3 ct3),sl3⟩) (c3:PySem.W.codeIn K cd3 "has_parts" = true) (k3:PySem.W.keepIn K (.ref f3)=true)
   (a4:PySem.W.nsIn K mainGlobals "is_clock" = some (some (.ref f4)))
   (l4:K.lookup f4=some ⟨oc4,od4,.func (PySem.W.fnOf "is_clock" "is_clock" (aX pC) (aV pC) (aD pC) .none kV4 dc4 pm4 an4 cd4 ct4),sl4⟩) (c4:PySem.W.codeIn K cd4 "is_clock" = true) (k4:PySem.W.keepIn K (.ref f4)=true)
   (a5:PySem.W.nsIn K mainGlobals "are_unlike" = some (some (.ref f5)))
   (l5:K.lookup f5=some ⟨oc5,od5,.func (PySem.W.fnOf "are_unlike" "are_unlike" (aX nM) (aV nM) (aD nM) .none kV5 dc5 pm5 an5 cd5 ct5),sl5⟩) (c5:PySem.W.codeIn K cd5 "are_unlike" = true) (k5:PySem.W.keepIn K (.ref f5)=true)
   (a6:PySem.W.nsIn K mainGlobals "is_letter" = some (some (.ref f6)))
   (l6:K.lookup f6=some ⟨oc6,od6,.func (PySem.W.fnOf "is_letter" "is_letter" (aX nP) (aV nP) (aD nP) .none kV6 dc6 pm6 an6 cd6 ct6),sl6⟩) (c6:PySem.W.codeIn K cd6 "is_letter" = true) (k6:PySem.W.keepIn K (.ref f6)=true)
   (a7:PySem.W.nsIn K mainGlobals "is_empty_house" = some (some (.ref f7)))
   (l7:K.lookup f7=some ⟨oc7,od7,.func (PySem.W.fnOf "is_empty_house" "is_empty_house" (aX nQ) (aV nQ) (aD nQ) .none kV7 dc7 pm7 an7 cd7 ct7),sl7⟩) (c7:PySem.W.codeIn K cd7 "is_empty_house" = true) (k7:PySem.W.keepIn K (.ref f7)=true)
   (a8:PySem.W.nsIn K mainGlobals "are_empty_houses" = some (some (.ref f8)))
   (l8:K.lookup f8=some ⟨oc8,od8,.func (PySem.W.fnOf "are_empty_houses" "are_empty_houses" (aX iW) (aV iW) (aD iW) .none kV8 dc8 pm8 an8 cd8 ct8),sl8⟩) (c8:PySem.W.codeIn K cd8 "are_empty_houses" = true) (k8:PySem.W.keepIn K (.ref f8)=true)
   (a9:PySem.W.nsIn K mainGlobals "runs_of" = some (some (.ref f9)))
   (l9:K.lookup f9=some ⟨oc9,od9,.func (PySem.W.fnOf "runs_of" "runs_of" (aX jV) (aV jV) (aD jV) .none kV9 dc9 pm9 an9 cd9 ct9),sl9⟩) (c9:PySem.W.codeIn K cd9 "runs_of" = true) (k9:PySem.W.keepIn K (.ref f9)=true)
   (a10:PySem.W.nsIn K mainGlobals "put_down" = some (some (.ref f10)))
   (l10:K.lookup f10=some ⟨ajt,aiq,.func (PySem.W.fnOf "put_down" "put_down" (aX gU) (aV gU) (aD gU) .none aju ajv ajw air adb ajx),ai7⟩) (c10:PySem.W.codeIn K adb "put_down" = true) (k10:PySem.W.keepIn K (.ref f10)=true)
   (a11:PySem.W.nsIn K mainGlobals "is_within_a_house" = some (some (.ref f11)))
   (l11:K.lookup f11=some ⟨ajy,ais,.func (PySem.W.fnOf "is_within_a_house" "is_within_a_house" (aX nT) (aV nT) (aD nT) .none ajz ajA ajB ait ade ajC),ai8⟩) (c11:PySem.W.codeIn K ade "is_within_a_house" = true) (k11:PySem.W.keepIn K (.ref f11)=true)
   (a12:PySem.W.nsIn K mainGlobals "_law_mixed" = some (some (.ref f12)))
   (l12:K.lookup f12=some ⟨ajD,aiu,.func (PySem.W.fnOf "_law_mixed" "_law_mixed" (aX rE) (aV rE) (aD rE) .none ajE ajF ajG aiv adf ajH),ai9⟩) (c12:PySem.W.codeIn K adf "_law_mixed" = true) (k12:PySem.W.keepIn K (.ref f12)=true)
   (a13:PySem.W.nsIn K mainGlobals "_law_pack" = some (some (.ref f13)))
   (l13:K.lookup f13=some ⟨ajI,aiw,.func (PySem.W.fnOf "_law_pack" "_law_pack" (aX za) (aV za) (aD za) .none ajJ ajK ajL aix adg ajM),aja⟩) (c13:PySem.W.codeIn K adg "_law_pack" = true) (k13:PySem.W.keepIn K (.ref f13)=true)
   (a14:PySem.W.nsIn K mainGlobals "_law_take" = some (some (.ref f14)))
   (l14:K.lookup f14=some ⟨ajN,aiy,.func (PySem.W.fnOf "_law_take" "_law_take" (aX zc) (aV zc) (aD zc) .none ajO ajP ajQ aiz adh ajR),ajb⟩) (c14:PySem.W.codeIn K adh "_law_take" = true) (k14:PySem.W.keepIn K (.ref f14)=true)
   (a15:PySem.W.nsIn K mainGlobals "_law_names" = some (some (.ref f15)))
   (l15:K.lookup f15=some ⟨ajS,aiA,.func (PySem.W.fnOf "_law_names" "_law_names" (aX lW) (aV lW) (aD lW) .none ajT ajU ajV aiB adi ajW),ajc⟩) (c15:PySem.W.codeIn K adi "_law_names" = true) (k15:PySem.W.keepIn K (.ref f15)=true)
   (a16:PySem.W.nsIn K mainGlobals "_law_house" = some (some (.ref f16)))
   (l16:K.lookup f16=some ⟨ajX,aiC,.func (PySem.W.fnOf "_law_house" "_law_house" (aX kO) (aV kO) (aD kO) .none ajY ajZ aj0 aiD adk aj1),ajd⟩) (c16:PySem.W.codeIn K adk "_law_house" = true) (k16:PySem.W.keepIn K (.ref f16)=true)
   (a17:PySem.W.nsIn K mainGlobals "_law_letters" = some (some (.ref f17)))
   (l17:K.lookup f17=some ⟨aj2,aiE,.func (PySem.W.fnOf "_law_letters" "_law_letters" (aX gj) (aV gj) (aD gj) .none aj3 aj4 aj5 aiF adl aj6),aje⟩) (c17:PySem.W.codeIn K adl "_law_letters" = true) (k17:PySem.W.keepIn K (.ref f17)=true)
   (a18:PySem.W.nsIn K mainGlobals "_law_ledger" = some (some (.ref f18)))
   (l18:K.lookup f18=some ⟨aj7,aiG,.func (PySem.W.fnOf "_law_ledger" "_law_ledger" (aX jr) (aV jr) (aD jr) .none aj8 aj9 akb aiH adn akc),ajf⟩) (c18:PySem.W.codeIn K adn "_law_ledger" = true) (k18:PySem.W.keepIn K (.ref f18)=true)
   (a19:PySem.W.nsIn K mainGlobals "_law_ledger_of" = some (some (.ref f19)))
   (l19:K.lookup f19=some ⟨akd,aiI,.func (PySem.W.fnOf "_law_ledger_of" "_law_ledger_of" (aX dB) (aV dB) (aD dB) .none ake akf akg aiJ ado akh),ajg⟩) (c19:PySem.W.codeIn K ado "_law_ledger_of" = true) (k19:PySem.W.keepIn K (.ref f19)=true)
   (a20:PySem.W.nsIn K mainGlobals "_law_told_rows" = some (some (.ref f20)))
   (l20:K.lookup f20=some ⟨aki,aiK,.func (PySem.W.fnOf "_law_told_rows" "_law_told_rows" (aX iu) (aV iu) (aD iu) .none akj akk akl aiL adp akm),ajh⟩) (c20:PySem.W.codeIn K adp "_law_told_rows" = true) (k20:PySem.W.keepIn K (.ref f20)=true)
   (a21:PySem.W.nsIn K mainGlobals "_law_mixed_up" = some (some (.ref f21)))
   (l21:K.lookup f21=some ⟨akn,aiM,.func (PySem.W.fnOf "_law_mixed_up" "_law_mixed_up" (aX kW) (aV kW) (aD kW) .none ako akp akq aiN adq akr),aji⟩) (c21:PySem.W.codeIn K adq "_law_mixed_up" = true) (k21:PySem.W.keepIn K (.ref f21)=true)
   (a22:PySem.W.findIn K (.ref C) "need_run" = some (some (.ref f22))) (i22:PySem.W.isFn K (.ref f22)=true)
   (l22:K.lookup f22=some ⟨aks,aiO,.func (PySem.W.fnOf "need_run" "Keeper.need_run" (aX iz) (aV iz) (aD iz) .none akt aku akv aiP adt akx),ajj⟩) (c22:PySem.W.codeIn K adt "Keeper.need_run" = true) (k22:PySem.W.keepIn K (.ref f22)=true)
   (a23:PySem.W.findIn K (.ref C) "need_free" = some (some (.ref f23))) (i23:PySem.W.isFn K (.ref f23)=true)
   (l23:K.lookup f23=some ⟨aky,aiQ,.func (PySem.W.fnOf "need_free" "Keeper.need_free" (aX iB) (aV iB) (aD iB) .none akz akA akB aiR adu akC),ajk⟩) (c23:PySem.W.codeIn K adu "Keeper.need_free" = true) (k23:PySem.W.keepIn K (.ref f23)=true)
   (a24:PySem.W.findIn K (.ref C) "__init__" = some (some (.ref f24))) (i24:PySem.W.isFn K (.ref f24)=true)
   (l24:K.lookup f24=some ⟨akD,aiS,.func (PySem.W.fnOf "__init__" "Keeper.__init__" (aX rT) (aV rT) (aD rT) .none akE akF akG aiT adv akH),ajl⟩) (c24:PySem.W.codeIn K adv "Keeper.__init__" = true) (k24:PySem.W.keepIn K (.ref f24)=true)
   (a25:PySem.W.findIn K (.ref C) "tell" = some (some (.ref f25))) (i25:PySem.W.isFn K (.ref f25)=true)
   (l25:K.lookup f25=some ⟨akI,aiU,.func (PySem.W.fnOf "tell" "Keeper.tell" (aX pN) (aV pN) (aD pN) .none akJ akK akL aiV adw akM),ajm⟩) (c25:PySem.W.codeIn K adw "Keeper.tell" = true) (k25:PySem.W.keepIn K (.ref f25)=true)
   (a26:PySem.W.findIn K (.ref C) "letter" = some (some (.ref f26))) (i26:PySem.W.isFn K (.ref f26)=true)
   (l26:K.lookup f26=some ⟨akN,aiW,.func (PySem.W.fnOf "letter" "Keeper.letter" (aX ju) (aV ju) (aD ju) .none akO akP akQ aiX adx akR),ajn⟩) (c26:PySem.W.codeIn K adx "Keeper.letter" = true) (k26:PySem.W.keepIn K (.ref f26)=true)
   (a27:PySem.W.findIn K (.ref C) "done" = some (some (.ref f27))) (i27:PySem.W.isFn K (.ref f27)=true)
   (l27:K.lookup f27=some ⟨akS,aiY,.func (PySem.W.fnOf "done" "Keeper.done" (aX rU) (aV rU) (aD rU) .none akT akU akV aiZ ady akW),ajo⟩) (c27:PySem.W.codeIn K ady "Keeper.done" = true) (k27:PySem.W.keepIn K (.ref f27)=true)
   (a28:PySem.W.findIn K (.ref C) "ledger" = some (some (.ref f28))) (i28:PySem.W.isFn K (.ref f28)=true)
   (l28:K.lookup f28=some ⟨akX,ai0,.func (PySem.W.fnOf "ledger" "Keeper.ledger" (aX jw) (aV jw) (aD jw) .none akY akZ ak1 ai1 adz ak2),ajp⟩) (c28:PySem.W.codeIn K adz "Keeper.ledger" = true) (k28:PySem.W.keepIn K (.ref f28)=true)
   (a29:PySem.W.nsIn K mainGlobals "_law_right" = some (some (.ref f29)))
   (l29:K.lookup f29=some ⟨ak4,ai2,.func (PySem.W.fnOf "_law_right" "_law_right" (aX m7) (aV m7) (aD m7) .none ak6 ak7 ak8 ai3 adA ak9),ajq⟩) (c29:PySem.W.codeIn K adA "_law_right" = true) (k29:PySem.W.keepIn K (.ref f29)=true)
   (a30:PySem.W.nsIn K mainGlobals "_law_like_houses" = some (some (.ref f30)))
   (l30:K.lookup f30=some ⟨ala,ai4,.func (PySem.W.fnOf "_law_like_houses" "_law_like_houses" (aX zf) (aV zf) (aD zf) .none alb alc ald ai5 adB ale),ajr⟩) (c30:PySem.W.codeIn K adB "_law_like_houses" = true) (k30:PySem.W.keepIn K (.ref f30)=true)
   (a31:PySem.W.nsIn K mainGlobals "law" = some (some (.ref f31)))
   (l31:K.lookup f31=some ⟨alf,ai6,.func (PySem.W.fnOf "law" "law" (aX Ay) (aV Ay) (aD Ay) .none adC adD adE ada Z1 adF),ajs⟩) (c31:PySem.W.codeIn K Z1 "law" = true) (k31:PySem.W.keepIn K (.ref f31)=true)
   (aC:PySem.W.nsIn K mainGlobals "Keeper" = some (some (.ref C))) (pg:PySem.W.plainGet K C Str.empty=true) (hd:PySem.W.hasDictIn K C=true) (po:PySem.W.plainOver K C=true) (sa:PySem.W.findIn K (.ref C) "__setattr__" = some (some (.builtin "object.__setattr__"))) (mk:PySem.W.makesIn K C=true) (kc:PySem.W.keepIn K (.ref C)=true)
   (nH:PySem.W.findIn K (.ref C) "houses" = some none) (nK:PySem.W.findIn K (.ref C) "kept" = some none) (nL:PySem.W.findIn K (.ref C) "letters" = some none) (nE:PySem.W.findIn K (.ref C) "ends" = some none)
   (y1:PySem.W.nsIn K mainGlobals "LONGEST_NAME" = some (some (.int 8 t8))) (y2:PySem.W.nsIn K mainGlobals "MOST_HOUSES" = some (some (.int 6 t6))) (y3:PySem.W.nsIn K mainGlobals "MOST_ROWS" = some (some (.int 24 tR))) (y4:PySem.W.nsIn K mainGlobals "MOST_LETTERS" = some (some (.int 24 tL))) (y5:PySem.W.nsIn K mainGlobals "MOST_RUN" = some (some (.int 9 t9))) (z1:PySem.W.nsIn K mainGlobals "isinstance" = some none) (z2:PySem.W.nsIn K mainGlobals "int" = some none) (z3:PySem.W.nsIn K mainGlobals "bool" = some none) (z4:PySem.W.nsIn K mainGlobals "str" = some none) (z5:PySem.W.nsIn K mainGlobals "tuple" = some none) (z6:PySem.W.nsIn K mainGlobals "len" = some none) (z7:PySem.W.nsIn K mainGlobals "all" = some none) (z8:PySem.W.nsIn K mainGlobals "zip" = some none) (z9:PySem.W.nsIn K mainGlobals "set" = some none) (z10:PySem.W.nsIn K mainGlobals "sorted" = some none) (z11:PySem.W.nsIn K mainGlobals "divmod" = some none) (z12:PySem.W.nsIn K mainGlobals "range" = some none) (z13:PySem.W.nsIn K mainGlobals "max" = some none) (z14:PySem.W.nsIn K mainGlobals "min" = some none) (z15:PySem.W.nsIn K mainGlobals "abs" = some none) (z16:PySem.W.nsIn K mainGlobals "list" = some none) (z17:PySem.W.nsIn K mainGlobals "any" = some none) (z18:PySem.W.nsIn K mainGlobals "dict" = some none) :
   ∃ fd:FuncData,(∀ (s:Shared) (v:Value),BindsTo s fd ⟨[v],[]⟩ [("_law_script",v)])/\∀ base:Heap,K.In base->base.Ns mainGlobals mg->aO l.prog w K mg base cg 9 fa fd ["_law_script"] (JC K):=by
 have e:=hfa.symm.trans (PySem.W.mg_of X G a31)
 cases e
 have T:Txt mg t8 t6 tR tL:=⟨PySem.W.mg_none_of X G z1,PySem.W.mg_none_of X G z2,PySem.W.mg_none_of X G z3,PySem.W.mg_none_of X G z4,PySem.W.mg_none_of X G z5,PySem.W.mg_none_of X G z6,PySem.W.mg_none_of X G z7,PySem.W.mg_none_of X G z8,PySem.W.mg_none_of X G z9,PySem.W.mg_none_of X G z10,PySem.W.mg_none_of X G z11,PySem.W.mg_none_of X G z12,PySem.W.mg_none_of X G z13,PySem.W.mg_none_of X G z14,PySem.W.mg_none_of X G z15,PySem.W.mg_none_of X G z16,PySem.W.mg_none_of X G z17,PySem.W.mg_none_of X G z18,PySem.W.mg_of X G y1,PySem.W.mg_of X G y2,PySem.W.mg_of X G y3,PySem.W.mg_of X G y4⟩
 have TC:KCls K mg C t9:=⟨⟨pg,hd,po,sa⟩,nH,nK,nL,nE,PySem.W.mg_of X G aC,PySem.W.mg_of X G y5⟩
 have F1:=bU (st:=rC) l1 c1 k1
 have b1:=F1.binds (ps:=["thing"]) fun _ _ _ _ _ _ us hl=>match us,hl with | [_],_=>rfl
 have F2:=bU (st:=vR) l2 c2 k2
 have b2:=F2.binds (ps:=["thing"]) fun _ _ _ _ _ _ us hl=>match us,hl with | [_],_=>rfl
 have F3:=bU (st:=rD) l3 c3 k3
 have b3:=F3.binds (ps:=["thing","many"]) fun _ _ _ _ _ _ us hl=>match us,hl with | [_,_],_=>rfl
 have F4:=bU (st:=pC) l4 c4 k4
 have b4:=F4.binds (ps:=["name","low","high","drift"]) fun _ _ _ _ _ _ us hl=>match us,hl with | [_,_,_,_],_=>rfl
 have F5:=bU (st:=nM) l5 c5 k5
 have b5:=F5.binds (ps:=["names"]) fun _ _ _ _ _ _ us hl=>match us,hl with | [_],_=>rfl
 have F6:=bU (st:=nP) l6 c6 k6
 have b6:=F6.binds (ps:=["thing"]) fun _ _ _ _ _ _ us hl=>match us,hl with | [_],_=>rfl
 have F7:=bU (st:=nQ) l7 c7 k7
 have b7:=F7.binds (ps:=["thing"]) fun _ _ _ _ _ _ us hl=>match us,hl with | [_],_=>rfl
 have F8:=bU (st:=iW) l8 c8 k8
 have b8:=F8.binds (ps:=["thing"]) fun _ _ _ _ _ _ us hl=>match us,hl with | [_],_=>rfl
 have F9:=bU (st:=jV) l9 c9 k9
 have b9:=F9.binds (ps:=["house","rows"]) fun _ _ _ _ _ _ us hl=>match us,hl with | [_,_],_=>rfl
 have F10:=bU (st:=gU) l10 c10 k10
 have b10:=F10.binds (ps:=["houses","rows","letters"]) fun _ _ _ _ _ _ us hl=>match us,hl with | [_,_,_],_=>rfl
 have F11:=bU (st:=nT) l11 c11 k11
 have b11:=F11.binds (ps:=["rows","sent","taken"]) fun _ _ _ _ _ _ us hl=>match us,hl with | [_,_,_],_=>rfl
 have F12:=bU (st:=rE) l12 c12 k12
 have b12:=F12.binds (ps:=["_law_cell"]) fun _ _ _ _ _ _ us hl=>match us,hl with | [_],_=>rfl
 have F13:=bU (st:=za) l13 c13 k13
 have b13:=F13.binds (ps:=["_law_script","_law_k"]) fun _ _ _ _ _ _ us hl=>match us,hl with | [_,_],_=>rfl
 have F14:=bU (st:=zc) l14 c14 k14
 have b14:=F14.binds (ps:=["_law_pack_here","_law_size"]) fun _ _ _ _ _ _ us hl=>match us,hl with | [_,_],_=>rfl
 have F15:=bU (st:=lW) l15 c15 k15
 have b15:=F15.binds (ps:=["_law_pack_here","_law_amount"]) fun _ _ _ _ _ _ us hl=>match us,hl with | [_,_],_=>rfl
 have F16:=bU (st:=kO) l16 c16 k16
 have b16:=F16.binds (ps:=["_law_pack_here","_law_name","_law_names_here","_law_room"]) fun _ _ _ _ _ _ us hl=>match us,hl with | [_,_,_,_],_=>rfl
 have F17:=bU (st:=gj) l17 c17 k17
 have b17:=F17.binds (ps:=["_law_pack_here","_law_houses","_law_hidden"]) fun _ _ _ _ _ _ us hl=>match us,hl with | [_,_,_],_=>rfl
 have F18:=bU (st:=jr) l18 c18 k18
 have b18:=F18.binds (ps:=["_law_script","_law_k"]) fun _ _ _ _ _ _ us hl=>match us,hl with | [_,_],_=>rfl
 have F19:=bU (st:=dB) l19 c19 k19
 have b19:=F19.binds (ps:=["_law_clocks","_law_rows","_law_letters_here"]) fun _ _ _ _ _ _ us hl=>match us,hl with | [_,_,_],_=>rfl
 have F20:=bU (st:=iu) l20 c20 k20
 have b20:=F20.binds (ps:=["_law_ledger_here"]) fun _ _ _ _ _ _ us hl=>match us,hl with | [_],_=>rfl
 have F21:=bU (st:=kW) l21 c21 k21
 have b21:=F21.binds (ps:=["_law_pack_here","_law_things"]) fun _ _ _ _ _ _ us hl=>match us,hl with | [_,_],_=>rfl
 have F22:=bU (st:=iz) l22 c22 k22
 have b22:=F22.binds (ps:=["self","house","run"]) fun _ _ _ _ _ _ us hl=>match us,hl with | [_,_,_],_=>rfl
 have F23:=bU (st:=iB) l23 c23 k23
 have b23:=F23.binds (ps:=["self","house","run","name","reading"]) fun _ _ _ _ _ _ us hl=>match us,hl with | [_,_,_,_,_],_=>rfl
 have F24:=bU (st:=rT) l24 c24 k24
 have b24:=F24.binds (ps:=["self","houses"]) fun _ _ _ _ _ _ us hl=>match us,hl with | [_,_],_=>rfl
 have F25:=bU (st:=pN) l25 c25 k25
 have b25:=F25.binds (ps:=["self","house","run","name","reading"]) fun _ _ _ _ _ _ us hl=>match us,hl with | [_,_,_,_,_],_=>rfl
 have F26:=bU (st:=ju) l26 c26 k26
 have b26:=F26.binds (ps:=["self","sent","taken","least","most"]) fun _ _ _ _ _ _ us hl=>match us,hl with | [_,_,_,_,_],_=>rfl
 have F27:=bU (st:=rU) l27 c27 k27
 have b27:=F27.binds (ps:=["self","house","run","reading"]) fun _ _ _ _ _ _ us hl=>match us,hl with | [_,_,_,_],_=>rfl
 have F28:=bU (st:=jw) l28 c28 k28
 have b28:=F28.binds (ps:=["self"]) fun _ _ _ _ _ _ us hl=>match us,hl with | [_],_=>rfl
 have F29:=bU (st:=m7) l29 c29 k29
 have b29:=F29.binds (ps:=["_law_pack_here","_law_ledger_here"]) fun _ _ _ _ _ _ us hl=>match us,hl with | [_,_],_=>rfl
 have F30:=bU (st:=zf) l30 c30 k30
 have b30:=F30.binds (ps:=[]) fun _ _ _ _ _ _ us hl=>match us,hl with | [],_=>rfl
 have F31:=bU (st:=Ay) l31 c31 k31
 have b31:=F31.binds (ps:=["_law_script"]) fun _ _ _ _ _ _ us hl=>match us,hl with | [_],_=>rfl
 refine ⟨PySem.W.fnOf "law" "law" (aX Ay) (aV Ay) (aD Ay) .none adC adD adE ada Z1 adF,fun s v=>.of_eq rfl,fun base _ _=>?_⟩
 have G1:aO l.prog w K mg base cg 1 f1 _ ["thing"] (lV K):=Pa F1 T
 have G2:aO l.prog w K mg base cg 1 f2 _ ["thing"] (vG K):=Uq F2 T
 have G3:aO l.prog w K mg base cg 1 f3 _ ["thing","many"] uM:=Pk F3 T
 have G4:aO l.prog w K mg base cg 2 f4 _ ["name","low","high","drift"] Am:=Pq F4 T G2 (PySem.W.mg_of X G a2) k2 b2 G1 (PySem.W.mg_of X G a1) k1 b1
 have G5:aO l.prog w K mg base cg 1 f5 _ ["names"] vH:=KC F5 T
 have G6:aO l.prog w K mg base cg 2 f6 _ ["thing"] (spD jU):=KD F6 G3 (PySem.W.mg_of X G a3) k3 b3 G2 (PySem.W.mg_of X G a2) k2 b2 G1 (PySem.W.mg_of X G a1) k1 b1
 have G7:aO l.prog w K mg base cg 3 f7 _ ["thing"] wj:=K6 F7 (G3.mono (by decide)) (PySem.W.mg_of X G a3) k3 b3 G4 (PySem.W.mg_of X G a4) k4 b4
 have G8:aO l.prog w K mg base cg 4 f8 _ ["thing"] rO:=Ga F8 T G7 (PySem.W.mg_of X G a7) k7 b7 (G5.mono (by decide)) (PySem.W.mg_of X G a5) k5 b5
 have G9:aO l.prog w K mg base cg 1 f9 _ ["house","rows"] wL:=Lp F9 T
 have G10:aO l.prog w K mg base cg 2 f10 _ ["houses","rows","letters"] rR:=Gu F10 T G9 (PySem.W.mg_of X G a9) k9 b9
 have G11:aO l.prog w K mg base cg 1 f11 _ ["rows","sent","taken"] qG:=K8 F11
 have G12:aO l.prog w K mg base cg 1 f12 _ ["_law_cell"] Ao:=Pg F12
 have G13:aO l.prog w K mg base cg 2 f13 _ ["_law_script","_law_k"] (Aq K):=Us F13 T G12 (PySem.W.mg_of X G a12) k12 b12
 have G14:aO l.prog w K mg base cg 1 f14 _ ["_law_pack_here","_law_size"] mX:=Ut F14 T
 have G15:aO l.prog w K mg base cg 2 f15 _ ["_law_pack_here","_law_amount"] Aw:=Ph F15 T G14 (PySem.W.mg_of X G a14) k14 b14
 have G16:aO l.prog w K mg base cg 2 f16 _ ["_law_pack_here","_law_name","_law_names_here","_law_room"] rK:=FP F16 T G14 (PySem.W.mg_of X G a14) k14 b14
 have G17:aO l.prog w K mg base cg 2 f17 _ ["_law_pack_here","_law_houses","_law_hidden"] lZ:=Bh F17 T G14 (PySem.W.mg_of X G a14) k14 b14
 have G18:aO l.prog w K mg base cg 3 f18 _ ["_law_script","_law_k"] (pF K):=Di F18 T G13 (PySem.W.mg_of X G a13) k13 b13 G15 (PySem.W.mg_of X G a15) k15 b15 (G14.mono (by decide)) (PySem.W.mg_of X G a14) k14 b14 G16 (PySem.W.mg_of X G a16) k16 b16 G17 (PySem.W.mg_of X G a17) k17 b17
 have G19:aO l.prog w K mg base cg 1 f19 _ ["_law_clocks","_law_rows","_law_letters_here"] pP:=DR F19 T
 have G20:aO l.prog w K mg base cg 1 f20 _ ["_law_ledger_here"] FW:=U0 F20 T
 have G21:aO l.prog w K mg base cg 2 f21 _ ["_law_pack_here","_law_things"] rN:=FT F21 T G14 (PySem.W.mg_of X G a14) k14 b14
 have G22:aO l.prog w K mg base cg 2 f22 _ ["self","house","run"] (ou C):=Gw F22 T TC G1 (PySem.W.mg_of X G a1) k1 b1
 have G23:aO l.prog w K mg base cg 2 f23 _ ["self","house","run","name","reading"] (pO C):=DK F23 T TC G2 (PySem.W.mg_of X G a2) k2 b2 G1 (PySem.W.mg_of X G a1) k1 b1
 have G24:aO l.prog w K mg base cg 5 f24 _ ["self","houses"] (qK C):=Vv F24 T TC G8 (PySem.W.mg_of X G a8) k8 b8
 have G25:aO l.prog w K mg base cg 4 f25 _ ["self","house","run","name","reading"] (Br C):=VB F25 T TC (G11.mono (by decide)) (PySem.W.mg_of X G a11) k11 b11 (G22.mono (by decide)) ⟨a22,i22,k22⟩ b22 (G23.mono (by decide)) ⟨a23,i23,k23⟩ b23
 have G26:aO l.prog w K mg base cg 3 f26 _ ["self","sent","taken","least","most"] (oA C):=GQ F26 T TC G6 (PySem.W.mg_of X G a6) k6 b6 (G11.mono (by decide)) (PySem.W.mg_of X G a11) k11 b11
 have G27:aO l.prog w K mg base cg 3 f27 _ ["self","house","run","reading"] (GD C):=VF F27 T TC (G1.mono (by decide)) (PySem.W.mg_of X G a1) k1 b1 G22 ⟨a22,i22,k22⟩ b22
 have G28:aO l.prog w K mg base cg 3 f28 _ ["self"] (lD C):=GK F28 TC G10 (PySem.W.mg_of X G a10) k10 b10
 have G29:aO l.prog w K mg base cg 8 f29 _ ["_law_pack_here","_law_ledger_here"] Bv:=Ro F29 T TC (G20.mono (by decide)) (PySem.W.mg_of X G a20) k20 b20 (G21.mono (by decide)) (PySem.W.mg_of X G a21) k21 b21 (G14.mono (by decide)) (PySem.W.mg_of X G a14) k14 b14 (G19.mono (by decide)) (PySem.W.mg_of X G a19) k19 b19 (G26.mono (by decide)) ⟨a26,i26,k26⟩ b26 (G25.mono (by decide)) ⟨a25,i25,k25⟩ b25 (G27.mono (by decide)) ⟨a27,i27,k27⟩ b27 (G28.mono (by decide)) ⟨a28,i28,k28⟩ b28 (G24.mono (by decide)) ⟨mk,a24,i24,kc⟩ b24
 have G30:aO l.prog w K mg base cg 8 f30 _ [] Hr:=V3 F30 T TC (G26.mono (by decide)) ⟨a26,i26,k26⟩ b26 (G25.mono (by decide)) ⟨a25,i25,k25⟩ b25 (G28.mono (by decide)) ⟨a28,i28,k28⟩ b28 (G24.mono (by decide)) ⟨mk,a24,i24,kc⟩ b24
 exact ZS F31 T TC G29 (PySem.W.mg_of X G a29) k29 b29 (G13.mono (by decide)) (PySem.W.mg_of X G a13) k13 b13 (G18.mono (by decide)) (PySem.W.mg_of X G a18) k18 b18 G30 (PySem.W.mg_of X G a30) k30 b30 (G28.mono (by decide)) ⟨a28,i28,k28⟩ b28 (G24.mono (by decide)) ⟨mk,a24,i24,kc⟩ b24
theorem walk {l:PySem.W.OpenLaw} {q:Program} {loose:List Str} {XP:(Str->Option Value)->Heap->Prop} {YP:World->Heap->Prop} {d:DefRec} {K:Params->PySem.W.Frag} (hn:l.most=some 63) (hdf:d.params.defaults=[])
   (hY:∀ (w:World) (h:Heap),YP w h->(K w.params).In h)
   (F:∀ (w:World) (mg:Str->Option Value) (fa:Addr) (h:Heap),(K w.params).In h->h.Ns mainGlobals mg->mg d.name=some (.ref fa) ->
     ∃ fd:FuncData,(∀ (s:Shared) (u:Value),BindsTo s fd ⟨[u],[]⟩ [("_law_script",u)])/\∀ base:Heap,(K w.params).In base->base.Ns mainGlobals mg->aO l.prog w (K w.params) mg base cg 9 fa fd ["_law_script"] (JC (K w.params))) :
   PySem.W.WalkO q loose XP YP l.row.toRowW d [] (fun f vs=>PySem.call f vs) :=
 Mv (n:=63) (k:=9) (x:="_law_script") (CX:=fun _=>cg) (sp:=fun w=>JC (K w.params)) hn (by decide) hdf ⟨rfl,by decide,by decide⟩ hY F (fun _ _ a ns hl hb _ hS=>⟨a,ns,rfl,hS,hl,hb,fun _=>rfl⟩) fun _ _ _ _ _ z=>z
end jQ
def PySem.W.Fast.tw17038449675570034111 : Unit := ()
def PySem.W.Fast.tw107992913755076217 : Unit := ()
def PySem.W.Fast.tw1857549609748167489 : Unit := ()
def PySem.W.Fast.tw13937656941646019944 : Unit := ()
def PySem.W.Fast.tw1734994137225386292 : Unit := ()
def PySem.W.Fast.tw4885534781702991119 : Unit := ()
def PySem.W.Fast.tw11582915316733274092 : Unit := ()
def PySem.W.Fast.tw5830094519936937383 : Unit := ()
def PySem.W.Fast.tw14552943938293262187 : Unit := ()
def PySem.W.Fast.tw1182019495861431805 : Unit := ()
def PySem.W.Fast.tw659617405000837368 : Unit := ()
def PySem.W.Fast.tw5412252959435279102 : Unit := ()
def PySem.W.Fast.tw1304445090273503981 : Unit := ()
def PySem.W.Fast.tw16280194839127470208 : Unit := ()
open PySem PySem.W PyProof.Rows
set_option maxRecDepth 100000 in
set_option maxHeartbeats 0 in
theorem PySem.Challenge.cw_skewbooks_k37_rows_and_letters_kept_holds : PySem.Challenge.rw_skewbooks_k37_rows_and_letters_kept.Holds := by
 w_on; o_law; k_head; (case hw=>w_witness2)
 k_fill
 refine jQ.walk (l:=PySem.Challenge.rw_skewbooks_k37_rows_and_letters_kept) rfl rfl (fun w h Y=>PySem.W.kIn_of Y) ?F
 case F =>
   intro w mg fa h KX G hmg
   refine' jQ.all_mk KX G hmg ?a1 ?l1 ?c1 ?k1 ?a2 ?l2 ?c2 ?k2 ?a3 ?l3 ?c3 ?k3 ?a4 ?l4 ?c4 ?k4 ?a5 ?l5 ?c5 ?k5 ?a6 ?l6 ?c6 ?k6 ?a7 ?l7 ?c7 ?k7 ?a8 ?l8 ?c8 ?k8 ?a9 ?l9 ?c9 ?k9 ?a10 ?l10 ?c10 ?k10 ?a11 ?l11 ?c11 ?k11 ?a12 ?l12 ?c12 ?k12 ?a13 ?l13 ?c13 ?k13 ?a14 ?l14 ?c14 ?k14 ?a15 ?l15 ?c15 ?k15 ?a16 ?l16 ?c16 ?k16 ?a17 ?l17 ?c17 ?k17 ?a18 ?l18 ?c18 ?k18 ?a19 ?l19 ?c19 ?k19 ?a20 ?l20 ?c20 ?k20 ?a21 ?l21 ?c21 ?k21 ?a22 ?i22 ?l22 ?c22 ?k22 ?a23 ?i23 ?l23 ?c23 ?k23 ?a24 ?i24 ?l24 ?c24 ?k24 ?a25 ?i25 ?l25 ?c25 ?k25 ?a26 ?i26 ?l26 ?c26 ?k26 ?a27 ?i27 ?l27 ?c27 ?k27 ?a28 ?i28 ?l28 ?c28 ?k28 ?a29 ?l29 ?c29 ?k29 ?a30 ?l30 ?c30 ?k30 ?a31 ?l31 ?c31 ?k31 ?aC ?pg ?hd ?po ?sa ?mk ?kc ?nH ?nK ?nL ?nE ?y1 ?y2 ?y3 ?y4 ?y5 ?z1 ?z2 ?z3 ?z4 ?z5 ?z6 ?z7 ?z8 ?z9 ?z10 ?z11 ?z12 ?z13 ?z14 ?z15 ?z16 ?z17 ?z18
   (case aC=>k_is)
   (case a1=>k_is)
   (case l1=>k_is)
   (case c1=>k_is)
   (case k1=>k_is)
   (case a2=>k_is)
   (case l2=>k_is)
   (case c2=>k_is)
   (case k2=>k_is)
   (case a3=>k_is)
   (case l3=>k_is)
   (case c3=>k_is)
   (case k3=>k_is)
   (case a4=>k_is)
   (case l4=>k_is)
   (case c4=>k_is)
   (case k4=>k_is)
   (case a5=>k_is)
   (case l5=>k_is)
   (case c5=>k_is)
   (case k5=>k_is)
   (case a6=>k_is)
   (case l6=>k_is)
   (case c6=>k_is)
   (case k6=>k_is)
   (case a7=>k_is)
   (case l7=>k_is)
   (case c7=>k_is)
   (case k7=>k_is)
   (case a8=>k_is)
   (case l8=>k_is)
   (case c8=>k_is)
   (case k8=>k_is)
   (case a9=>k_is)
   (case l9=>k_is)
   (case c9=>k_is)
   (case k9=>k_is)
   (case a10=>k_is)
   (case l10=>k_is)
   (case c10=>k_is)
   (case k10=>k_is)
   (case a11=>k_is)
   (case l11=>k_is)
   (case c11=>k_is)
   (case k11=>k_is)
   (case a12=>k_is)
   (case l12=>k_is)
   (case c12=>k_is)
   (case k12=>k_is)
   (case a13=>k_is)
   (case l13=>k_is)
   (case c13=>k_is)
   (case k13=>k_is)
   (case a14=>k_is)
   (case l14=>k_is)
   (case c14=>k_is)
   (case k14=>k_is)
   (case a15=>k_is)
   (case l15=>k_is)
   (case c15=>k_is)
   (case k15=>k_is)
   (case a16=>k_is)
   (case l16=>k_is)
   (case c16=>k_is)
   (case k16=>k_is)
   (case a17=>k_is)
   (case l17=>k_is)
   (case c17=>k_is)
   (case k17=>k_is)
   (case a18=>k_is)
   (case l18=>k_is)
   (case c18=>k_is)
   (case k18=>k_is)
   (case a19=>k_is)
   (case l19=>k_is)
   (case c19=>k_is)
   (case k19=>k_is)
   (case a20=>k_is)
   (case l20=>k_is)
   (case c20=>k_is)
   (case k20=>k_is)
   (case a21=>k_is)
   (case l21=>k_is)
   (case c21=>k_is)
   (case k21=>k_is)
   (case a22=>k_is)
   (case i22=>k_is)
   (case l22=>k_is)
   (case c22=>k_is)
   (case k22=>k_is)
   (case a23=>k_is)
   (case i23=>k_is)
   (case l23=>k_is)
   (case c23=>k_is)
   (case k23=>k_is)
   (case a24=>k_is)
   (case i24=>k_is)
   (case l24=>k_is)
   (case c24=>k_is)
   (case k24=>k_is)
   (case a25=>k_is)
   (case i25=>k_is)
   (case l25=>k_is)
   (case c25=>k_is)
   (case k25=>k_is)
   (case a26=>k_is)
   (case i26=>k_is)
   (case l26=>k_is)
   (case c26=>k_is)
   (case k26=>k_is)
   (case a27=>k_is)
   (case i27=>k_is)
   (case l27=>k_is)
   (case c27=>k_is)
   (case k27=>k_is)
   (case a28=>k_is)
   (case i28=>k_is)
   (case l28=>k_is)
   (case c28=>k_is)
   (case k28=>k_is)
   (case a29=>k_is)
   (case l29=>k_is)
   (case c29=>k_is)
   (case k29=>k_is)
   (case a30=>k_is)
   (case l30=>k_is)
   (case c30=>k_is)
   (case k30=>k_is)
   (case a31=>k_is)
   (case l31=>k_is)
   (case c31=>k_is)
   (case k31=>k_is)
   (case pg=>k_is)
   (case hd=>k_is)
   (case po=>k_is)
   (case sa=>k_is)
   (case mk=>k_is)
   (case kc=>k_is)
   (case nH=>k_is)
   (case nK=>k_is)
   (case nL=>k_is)
   (case nE=>k_is)
   (case y1=>k_is)
   (case y2=>k_is)
   (case y3=>k_is)
   (case y4=>k_is)
   (case y5=>k_is)
   (case z1=>k_is)
   (case z2=>k_is)
   (case z3=>k_is)
   (case z4=>k_is)
   (case z5=>k_is)
   (case z6=>k_is)
   (case z7=>k_is)
   (case z8=>k_is)
   (case z9=>k_is)
   (case z10=>k_is)
   (case z11=>k_is)
   (case z12=>k_is)
   (case z13=>k_is)
   (case z14=>k_is)
   (case z15=>k_is)
   (case z16=>k_is)
   (case z17=>k_is)
   (case z18=>k_is)
