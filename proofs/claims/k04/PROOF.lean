import PyProof.Rows.All
import Wide.All
import OpenK.AllK
import Wide.FinOn
import Lean
import PyProof.EqAt
import PyProof.EqKinds
import PyProof.TupleCall
import PySem.Challenge.RW_skewbooks_k04_placings_looked_at
set_option Elab.async false
set_option linter.all false
set_option maxRecDepth 100000
namespace L2
open PySem PySem.Spec PyProof.Rows
abbrev Key := Sum (Option Int) Str
def keyIs : Key -> Value -> Bool
 | .inl none,v => match v with | .none => true | _ => false
 | .inl (some k),v => Value.isInt k v
 | .inr x,v => Value.isStrOf x v
def keyH (w : World) : Key -> Int
 | .inl none => 0xFCA86420
 | .inl (some k) => hashInt k
 | .inr x => hashStr w x
theorem keyIs_shape : ∀ {k : Key} {v : Value},keyIs k v = true -> (∃ i t,k = Sum.inl (some i) /\ v = Value.int i t) ∨ (∃ x t,k = Sum.inr x /\ v = Value.str x t) ∨ (k = Sum.inl none /\ v = Value.none)
 | .inl (some i),v,h => by
   obtain ⟨t,e⟩ := Value.isInt_shape (k := i) (v := v) h
   exact .inl ⟨i,t,rfl,e⟩
 | .inl none,v,h => by
   cases v with
   | none => exact .inr (.inr ⟨rfl,rfl⟩)
   | _ => cases h
 | .inr x,v,h => by
   obtain ⟨t,e⟩ := Value.isStrOf_shape (x := x) (v := v) h
   exact .inr (.inl ⟨x,t,rfl,e⟩)
theorem keyIs_int (i : Int) (t : Tok) : keyIs (.inl (some i)) (.int i t) = true := by simp [keyIs,Value.isInt]
theorem keyIs_str (x : Str) (t : Tok) : keyIs (.inr x) (.str x t) = true := by simp [keyIs,Value.isStrOf]
theorem keyIs_none : keyIs (.inl none) .none = true := rfl
theorem key_ll (a b : Int) : decide ((Sum.inl (some a) : Key) = Sum.inl (some b)) = (a == b) := by
 by_cases e : a = b
 . subst e; simp
 . have h : ¬ (Sum.inl (some a) : Key) = Sum.inl (some b) := fun q => e (Option.some.inj (Sum.inl.inj q))
   rw [decide_eq_false h]
   exact (beq_eq_false_iff_ne.mpr e).symm
theorem key_rr (a b : Str) : decide ((Sum.inr a : Key) = Sum.inr b) = decide (a = b) := by
 by_cases e : a = b
 . subst e; simp
 . have h : ¬ (Sum.inr a : Key) = Sum.inr b := fun q => e (Sum.inr.inj q)
   rw [decide_eq_false h,decide_eq_false e]
theorem key_lr (a : Option Int) (b : Str) : decide ((Sum.inl a : Key) = Sum.inr b) = false := decide_eq_false (fun q => nomatch q)
theorem key_rl (a : Str) (b : Option Int) : decide ((Sum.inr a : Key) = Sum.inl b) = false := decide_eq_false (fun q => nomatch q)
theorem key_ln (a : Int) : decide ((Sum.inl (some a) : Key) = Sum.inl none) = false := decide_eq_false (fun q => nomatch (Sum.inl.inj q))
theorem key_nl (a : Int) : decide ((Sum.inl none : Key) = Sum.inl (some a)) = false := decide_eq_false (fun q => nomatch (Sum.inl.inj q))
theorem key_nn : decide ((Sum.inl none : Key) = Sum.inl none) = true := decide_eq_true rfl
theorem hash_none {prog : Program} {w : World} {A : Around} {E : Value -> Shared -> Prop} {s : Shared} {Q : Int -> Shared -> Prop} (h : Q 0xFCA86420 { s with toks := s.toks + 1 }) : wpAny (model prog w) A (pyHash .none) Q E s := by
 have hT : s.TypeIs .none "NoneType" := rfl
 unfold pyHash
 have hv : [Value.none].any Value.onHeap = false := rfl
 refine wpAny_bind ?_
 rw [cRoomFor,if_neg (by rw [hv]; exact Bool.false_ne_true)]; refine wpAny_pure ?_
 refine wpAny_bind (wpAny_specialOf hT PySem.F.slot_NoneType_hash.lookup ?_)
 show wpAny _ _ (if (some (Value.builtin "NoneType.__hash__") == some Value.none) = true then _ else _) Q E s
 rw [if_neg (by decide)]
 refine wpAny_bind (wpAny_specialOf hT PySem.F.slot_NoneType_hash.lookup ?_)
 show wpAny _ _ (callSpecialIfBoundUnlessNone? .none "__hash__" _ >>= _) Q E s
 refine wpAny_bind (wpAny_callSpecialIfBoundUnlessNone?_slot hT PySem.F.slot_NoneType_hash
   (wpAny_call_entry PySem.F.slot_NoneType_hash hT PySem.F.entry_NoneType_hash
     (show wpAny _ _ (do ret (<- mkInt 0xFCA86420)) _ _ s from wpAny_ret_mkInt ?_) (PySem.F.args_NoneType_hash_1 _)))
 show wpAny _ _ (if (decide (-(2 : Int) ^ 63 <= 0xFCA86420) && decide ((0xFCA86420 : Int) < 2 ^ 63)) = true then _ else _) Q E _
 rw [if_pos (by decide)]
 exact wpAny_pure h
theorem eq_none_self {prog : Program} {w : World} {A : Around} {E : Value -> Shared -> Prop} {s : Shared} {Q : Bool -> Shared -> Prop} (h : Q true s) : wpAny (model prog w) A (eqBool .none .none) Q E s := by
 have hb : (Value.none == Value.none) = true := by decide
 unfold eqBool
 rw [if_pos hb]
 exact wpAny_bind (wpAny_rule (wpAny_pure h))
def mixKind (prog : Program) (w : World) : PySem.KeyKind prog w Key where
 is := keyIs
 hash := keyH w
 inj := fun v a b ha hb => by
   rcases keyIs_shape ha with ⟨i,t,rfl,rfl⟩ | ⟨x,t,rfl,rfl⟩ | ⟨rfl,rfl⟩
   . rcases keyIs_shape hb with ⟨j,u,rfl,e⟩ | ⟨y,u,rfl,e⟩ | ⟨rfl,e⟩
     . injection e with e1 _; rw [e1]
     . exact nomatch e
     . exact nomatch e
   . rcases keyIs_shape hb with ⟨j,u,rfl,e⟩ | ⟨y,u,rfl,e⟩ | ⟨rfl,e⟩
     . exact nomatch e
     . injection e with e1 _; rw [e1]
     . exact nomatch e
   . rcases keyIs_shape hb with ⟨j,u,rfl,e⟩ | ⟨y,u,rfl,e⟩ | ⟨rfl,e⟩
     . exact nomatch e
     . exact nomatch e
     . rfl
 byValue := fun k v h => by
   rcases keyIs_shape h with ⟨i,t,rfl,rfl⟩ | ⟨x,t,rfl,rfl⟩ | ⟨rfl,rfl⟩ <;> rfl
 pyHash := fun hv h => by
   rcases keyIs_shape hv with ⟨i,t,rfl,rfl⟩ | ⟨x,t,rfl,rfl⟩ | ⟨rfl,rfl⟩
   . exact wpAny_pyHash_int h
   . exact wpAny_pyHash_str h
   . exact hash_none h
 eqBool := fun hu hv h => by
   rcases keyIs_shape hu with ⟨i,t,rfl,rfl⟩ | ⟨x,t,rfl,rfl⟩ | ⟨rfl,rfl⟩
   . rcases keyIs_shape hv with ⟨j,u,rfl,rfl⟩ | ⟨y,u,rfl,rfl⟩ | ⟨rfl,rfl⟩
     . rw [key_ll] at h; exact wpAny_eqBool_int h
     . rw [key_lr] at h; exact SeqAt.EqAt.int_str i t y u _ _ _ _ h
     . rw [key_ln] at h; exact SeqAt.EqAt.int_none i t _ _ _ _ h
   . rcases keyIs_shape hv with ⟨j,u,rfl,rfl⟩ | ⟨y,u,rfl,rfl⟩ | ⟨rfl,rfl⟩
     . rw [key_rl] at h; exact SeqAt.EqAt.str_int x t j u _ _ _ _ h
     . rw [key_rr] at h; exact wpAny_eqBool_str h
     . rw [key_rl] at h; exact SeqAt.EqAt.str_none x t _ _ _ _ h
   . rcases keyIs_shape hv with ⟨j,u,rfl,rfl⟩ | ⟨y,u,rfl,rfl⟩ | ⟨rfl,rfl⟩
     . rw [key_nl] at h; exact SeqAt.EqAt.none_int j u _ _ _ _ h
     . rw [key_lr] at h; exact SeqAt.EqAt.none_str y u _ _ _ _ h
     . rw [key_nn] at h; exact eq_none_self h
 «strs» := fun k x t v h => by
   rcases keyIs_shape h with ⟨i,u,rfl,e⟩ | ⟨y,u,rfl,e⟩ | ⟨rfl,e⟩
   . exact nomatch e
   . injection e with e1 _
     subst e1
     cases v <;> rfl
   . exact nomatch e
theorem mixKind_int (prog : Program) (w : World) (i : Int) (t : Tok) : (mixKind prog w).is (.inl (some i)) (.int i t) = true := keyIs_int i t
theorem mixKind_str (prog : Program) (w : World) (x : Str) (t : Tok) : (mixKind prog w).is (.inr x) (.str x t) = true := keyIs_str x t
theorem mixKind_none (prog : Program) (w : World) : (mixKind prog w).is (.inl none) .none = true := keyIs_none
end L2
namespace L2
open PySem PySem.Spec PyProof.Rows
inductive V where
 | non | bl (b : Bool) | int (i : Int) | str (x : Str) | byt (b : Array UInt8) | flt (b : UInt64) | ref (a : Addr) | ty (n : String)
 deriving DecidableEq
def RelV : V -> Value -> Prop
 | .non,u => u = Value.none
 | .bl b,u => u = Value.bool b
 | .int i,u => ∃ t,u = Value.int i t
 | .str x,u => ∃ t,u = Value.str x t
 | .byt b,u => ∃ t,u = Value.bytes b t
 | .flt b,u => ∃ t,u = Value.float b t
 | .ref a,u => u = Value.ref a
 | .ty n,u => u = Value.type n
abbrev Vals : List V -> List Value -> Prop := Paired RelV
theorem Vals.length {xs : List V} {us : List Value} (r : Vals xs us) : xs.length = us.length := Paired.length r
theorem Vals.get : ∀ {xs : List V} {us : List Value} {i : Nat} {x : V},Vals xs us -> xs[i]? = some x -> ∃ u,us[i]? = some u /\ RelV x u
 | _,_,_,_,.nil,e => by simp at e
 | _,_,0,_,.cons r _,e => by simp at e; subst e; exact ⟨_,rfl,r⟩
 | _,_,i + 1,x,.cons _ t,e => by
   obtain ⟨u,h1,h2⟩ := Vals.get (i := i) (x := x) t (by simpa using e)
   exact ⟨u,by simpa using h1,h2⟩
theorem Vals.set {x : V} {u : Value} (r : RelV x u) : ∀ {xs : List V} {us : List Value} (i : Nat),Vals xs us -> Vals (xs.set i x) (us.set i u)
 | _,_,_,.nil => .nil
 | _,_,0,.cons _ t => .cons r t
 | _,_,i + 1,.cons q t => .cons q (Vals.set r i t)
theorem Vals.append : ∀ {xs ys : List V} {us ws : List Value},Vals xs us -> Vals ys ws -> Vals (xs ++ ys) (us ++ ws)
 | _,_,_,_,.nil,s => s
 | _,_,_,_,.cons r t,s => .cons r (Vals.append t s)
theorem Vals.take : ∀ {xs : List V} {us : List Value} (n : Nat),Vals xs us -> Vals (xs.take n) (us.take n)
 | _,_,0,_ => .nil
 | _,_,_ + 1,.nil => .nil
 | _,_,n + 1,.cons r t => .cons r (Vals.take n t)
theorem Vals.drop : ∀ {xs : List V} {us : List Value} (n : Nat),Vals xs us -> Vals (xs.drop n) (us.drop n)
 | _,_,0,r => r
 | _,_,_ + 1,.nil => .nil
 | _,_,n + 1,.cons _ t => Vals.drop n t
def RelO : Option V -> Option Value -> Prop
 | some v,some u => RelV v u
 | none,none => True
 | _,_ => False
def KV {κ : Type} : List (κ × V) -> List (κ × Value) -> Prop := Paired fun (p : κ × V) (q : κ × Value) => p.1 = q.1 /\ RelV p.2 q.2
def kV : Key -> V
 | .inl none => .non
 | .inl (some i) => .int i
 | .inr x => .str x
inductive HO where
 /-- a list -/
 | lst (xs : List V)
 /-- a tuple (never changes) -/
 | tup (xs : List V)
 /-- a dict whose keys are ints and texts; one whose keys are tuples of ints and texts (the empty one is both) -/
 | dK (kvs : List (Key × V)) | dT (kvs : List (List Key × V))
 /-- a set of ints: its members,its size -/
 | set (S : Int -> Bool) (n : Nat)
 /-- an instance of the class at C,its dict at dx,its attributes -/
 | ins (C dx : Addr) (fs : List (Str × V))
 /-- the dict of the instance at x -/
 | own (x : Addr)
 /-- the dict of an exception -/
 | xd (fs : List (Str × V))
 /-- a bound method,f of x -/
 | met (f x : Addr)
 /-- a range object lo,lo + 1,.. below hi -/
 | rng (lo hi : Int)
 /-- a thing that is known to the object (the script; a dict while a loop walks it): read,never written while it is so -/
 | frz (o : Obj) (u : HO)
 /-- a code object's table -/
 | tbl (ps : Array Value)
 /-- any other thing,by what is true of its one object (a def of one's own: SetO a S n := HO.ext fun h => ..) -/
 | ext (φ : Heap -> Prop)
abbrev Hp := Addr -> Option HO
def upd (H : Hp) (a : Addr) (o : HO) : Hp := fun b => if b = a then some o else H b
theorem upd_same {H : Hp} {a : Addr} {o : HO} : upd H a o a = some o := by unfold upd; rw [if_pos rfl]
theorem upd_ne {H : Hp} {a b : Addr} {o : HO} (h : b ≠ a) : upd H a o b = H b := by unfold upd; rw [if_neg h]
theorem ne_of {H : Hp} {a b : Addr} {o u : HO} (h : H a = some o) (h' : H b = some u) (d : o ≠ u) : a ≠ b := by
 intro e; subst e; rw [h] at h'; exact d (Option.some.inj h')
theorem ne_of_none {H : Hp} {a b : Addr} {o : HO} (h : H a = some o) (h' : H b = none) : a ≠ b := by
 intro e; subst e; rw [h] at h'; cases h'
section
variable (P : Program) (w : World)
def ObjOk (H : Hp) (h : Heap) (a : Addr) : HO -> Prop
 | .lst xs => xs.length <= sizeLine /\ ∃ (its : List Value) (n : Nat),Vals xs its /\ h.get? a = some { cls := .type "list",data := .seq its.toArray n }
 | .tup xs => xs.length <= sizeLine /\ ∃ its : List Value,Vals xs its /\ IsTup h a its.toArray
 | .dK kvs => kvs.length <= sizeLine /\ (a == sysModules) = false /\ ∃ vs,KV kvs vs /\ h.DictOf (mixKind P w) a vs
 | .dT kvs => kvs.length <= sizeLine /\ (a == sysModules) = false /\ ∃ xs : List (List Key × Addr × Value),
     Paired (fun (p : List Key × V) (q : List Key × Addr × Value) => p.1 = q.1 /\ H q.2.1 = some (.tup (p.1.map kV)) /\ RelV p.2 q.2.2) kvs xs /\
     ∃ o es ep,h.get? a = some o /\ o.ExactDict /\ o.data = .dict es ep /\ es.toList = xs.map (entryOfKey (tupleKind (mixKind P w))) /\ (xs.map (·.1)).Nodup
 | .set S n => h.SetOf (intKind P w) a S n
 | .ins C dx fs => H dx = some (.own a) /\ fs.length <= 1000 /\ dx ≠ a /\ h.get? a = some (PySem.W.instObj C dx) /\
     ∃ mA,h.Ns1 dx mA /\ (∀ f,RelO (fs.lookup f) (mA f)) /\ PySem.Within mA (fs.map (·.1))
 | .own _ => ∃ o,h.get? a = some o
 | .xd fs => ∃ mA,h.Ns1 a mA /\ ∀ f,RelO (fs.lookup f) (mA f)
 | .rng lo hi => ∃ t u v,h.get? a = some { cls := .type "range",data := .fields #[.int lo t,.int hi u,.int 1 v] }
 | .frz o u => h.get? a = some o /\ ObjOk H h a u
 | .tbl ps => h.get? a = some { cls := .none,data := .fields ps }
 | .met f x => h.get? a = some (PySem.W.methodObj (.ref f) (.ref x))
 | .ext φ => φ h /\ (∃ o,h.get? a = some o) /\ ∀ h1 h2 : Heap,φ h1 -> (∀ o,h1.get? a = some o -> h2.get? a = some o) -> φ h2
def HOk (H : Hp) (h : Heap) : Prop := ∀ a o,H a = some o -> ObjOk P w H h a o
end
section
variable {P : Program} {w : World} {H H' : Hp} {h h' : Heap} {a : Addr} {o : HO}
theorem ObjOk.lt (x : ObjOk P w H h a o) : a < h.objs.size := by
 cases o with
 | lst xs => obtain ⟨_,_,_,_,e⟩ := x; exact Heap.lt_size e
 | tup xs => obtain ⟨_,_,_,p⟩ := x; exact p.lt
 | dK kvs => obtain ⟨_,_,_,_,o,_,_,e,_⟩ := x; exact Heap.lt_size e
 | dT kvs => obtain ⟨_,_,_,_,o,_,_,e,_⟩ := x; exact Heap.lt_size e
 | set S n => obtain ⟨o,_,_,_,e,_⟩ := x; exact Heap.lt_size e
 | ins C dx fs => obtain ⟨_,_,_,e,_⟩ := x; exact Heap.lt_size e
 | own y => obtain ⟨_,e⟩ := x; exact Heap.lt_size e
 | xd fs => obtain ⟨_,⟨_,_,_,e,_⟩,_⟩ := x; exact Heap.lt_size e
 | rng lo hi => obtain ⟨_,_,_,e⟩ := x; exact Heap.lt_size e
 | frz ob u => obtain ⟨e,_⟩ := x; exact Heap.lt_size e
 | tbl ps => exact Heap.lt_size (show h.get? a = some _ from x)
 | met f y => exact Heap.lt_size (show h.get? a = some _ from x)
 | ext φ => obtain ⟨_,⟨_,e⟩,_⟩ := x; exact Heap.lt_size e
theorem Paired.mapP {α β : Type} {F G : α -> β -> Prop} : ∀ {l₁ : List α} {l₂ : List β},Paired F l₁ l₂ -> (∀ a b,F a b -> G a b) -> Paired G l₁ l₂
 | _,_,.nil,_ => .nil
 | _,_,.cons r t,f => .cons (f _ _ r) (Paired.mapP t f)
theorem ObjOk.stay (x : ObjOk P w H h a o) (k : ∀ b u,(b = a ∨ H b = some (.own a)) -> h.get? b = some u -> h'.get? b = some u)
   (ho : ∀ b,H b = some (.own a) -> H' b = some (.own a)) (ht : ∀ b xs,H b = some (.tup xs) -> H' b = some (.tup xs)) : ObjOk P w H' h' a o := by
 induction o with
 | lst xs => obtain ⟨z,its,n,r,e⟩ := x; exact ⟨z,its,n,r,k _ _ (.inl rfl) e⟩
 | tup xs => obtain ⟨z,its,r,ob,e,c⟩ := x; exact ⟨z,its,r,ob,k _ _ (.inl rfl) e,c⟩
 | dK kvs => obtain ⟨z,y,vs,r,ob,es,ep,e,c⟩ := x; exact ⟨z,y,vs,r,ob,es,ep,k _ _ (.inl rfl) e,c⟩
 | dT kvs =>
   obtain ⟨z,y,xs,r,ob,es,ep,e,c⟩ := x
   exact ⟨z,y,xs,Paired.mapP r fun p q z => ⟨z.1,ht _ _ z.2.1,z.2.2⟩,ob,es,ep,k _ _ (.inl rfl) e,c⟩
 | set S n => obtain ⟨ob,es,ep,t,e,c⟩ := x; exact ⟨ob,es,ep,t,k _ _ (.inl rfl) e,c⟩
 | ins C dx fs =>
   obtain ⟨d,z,ne,e,mA,⟨od,es,ep,e2,c⟩,r⟩ := x
   exact ⟨ho _ d,z,ne,k _ _ (.inl rfl) e,mA,⟨od,es,ep,k _ _ (.inr d) e2,c⟩,r⟩
 | own y => obtain ⟨ob,e⟩ := x; exact ⟨ob,k _ _ (.inl rfl) e⟩
 | xd fs => obtain ⟨mA,⟨od,es,ep,e,c⟩,r⟩ := x; exact ⟨mA,⟨od,es,ep,k _ _ (.inl rfl) e,c⟩,r⟩
 | rng lo hi => obtain ⟨t,u,v,e⟩ := x; exact ⟨t,u,v,k _ _ (.inl rfl) e⟩
 | frz ob u ih => obtain ⟨e,q⟩ := x; exact ⟨k _ _ (.inl rfl) e,ih q⟩
 | tbl ps =>
   have e : h.get? a = some { cls := .none,data := .fields ps } := x
   show h'.get? a = some { cls := .none,data := .fields ps }
   exact k a _ (.inl rfl) e
 | met f y =>
   have e : h.get? a = some (PySem.W.methodObj (.ref f) (.ref y)) := x
   show h'.get? a = some (PySem.W.methodObj (.ref f) (.ref y))
   exact k a _ (.inl rfl) e
 | ext φ => obtain ⟨p,⟨o,e⟩,st⟩ := x; exact ⟨st _ _ p fun o q => k _ _ (.inl rfl) q,⟨o,k _ _ (.inl rfl) e⟩,st⟩
theorem HOk.lt (x : HOk P w H h) (e : H a = some o) : a < h.objs.size := (x a o e).lt
theorem HOk.fresh (x : HOk P w H h) (e : h.objs.size <= a) : H a = none := by
 cases q : H a with
 | none => rfl
 | some u => exact absurd (Nat.lt_of_lt_of_le (x.lt q) e) (Nat.lt_irrefl _)
theorem HOk.kept (x : HOk P w H h) (k : ∀ b u,h.get? b = some u -> h'.get? b = some u) : HOk P w H h' := fun a o e =>
 (x a o e).stay (fun b u _ q => k b u q) (fun _ q => q) fun _ _ q => q
theorem HOk.laid (x : HOk P w H h) (k : ∀ b u,h.get? b = some u -> h'.get? b = some u) (hp : h.objs.size <= a) (new : ObjOk P w (upd H a o) h' a o) : HOk P w (upd H a o) h' := fun b u e => by
 have hn := x.fresh hp
 by_cases hb : b = a
 . subst hb; rw [upd_same] at e; cases e; exact new
 . rw [upd_ne hb] at e
   exact (x b u e).stay (fun c v _ q => k c v q) (fun c q => by rw [upd_ne (ne_of_none q hn)]; exact q) fun c xs q => by rw [upd_ne (ne_of_none q hn)]; exact q
end
def Rd (H : Hp) (a : Addr) (u : HO) : Prop := H a = some u ∨ ∃ o,H a = some (.frz o u)
theorem Rd.ok {P : Program} {w : World} {H : Hp} {h : Heap} {a : Addr} {u : HO} (r : Rd H a u) (x : HOk P w H h) : ObjOk P w H h a u := by
 rcases r with r | ⟨o,r⟩
 . exact x a u r
 . obtain ⟨_,q⟩ := x a _ r
   exact q
def Mut : Option HO -> Prop
 | some (.lst _) => True
 | some (.dK _) => True
 | some (.dT _) => True
 | some (.set _ _) => True
 | some (.ins _ _ _) => True
 | some (.ext _) => True
 | _ => False
section
variable {P : Program} {w : World} {H : Hp} {h h' : Heap} {x e : Addr} {o' : HO}
theorem HOk.write (ok : HOk P w H h) (mu : Mut (H x)) (he : e = x ∨ H e = some (.own x)) (k : ∀ b u,b ≠ e -> h.get? b = some u -> h'.get? b = some u) (heo : ∃ u,h'.get? e = some u)
   (new : ObjOk P w (upd H x o') h' x o') : HOk P w (upd H x o') h' := fun b u q => by
 have nown : ∀ c y,H c = some (.own y) -> c ≠ x := fun c y r z => by subst z; rw [r] at mu; exact mu
 have ntup : ∀ c xs,H c = some (.tup xs) -> c ≠ x := fun c xs r z => by subst z; rw [r] at mu; exact mu
 by_cases hb : b = x
 . subst hb; rw [upd_same] at q; cases q; exact new
 . rw [upd_ne hb] at q
   by_cases hbe : b = e
   . have q' : H b = some (.own x) := by
       rcases he with z | z
       . exact absurd (hbe.trans z) hb
       . rw [hbe]; exact z
     rw [q] at q'; cases q'
     obtain ⟨v,hv⟩ := heo
     exact ⟨v,by rw [hbe]; exact hv⟩
   . refine (ok b u q).stay (fun c v hc r => k c v ?_ r) (fun c r => by rw [upd_ne (nown c b r)]; exact r) fun c xs r => by rw [upd_ne (ntup c xs r)]; exact r
     rcases hc with rfl | hc
     . exact hbe
     . rintro rfl
       rcases he with z | z
       . exact nown c b hc z
       . rw [hc] at z; cases z; exact hb rfl
end
structure Un (fs ex : List Addr) (H H' : Hp) (h h' : Heap) : Prop where
 keep : ∀ b o,h.get? b = some o -> H b = none -> b ∉ fs -> b ∉ ex -> h'.get? b = some o
 slot : ∀ b o,h.get? b = some o -> H b = none -> b ∈ fs -> b ∉ ex -> ∃ sl,h'.get? b = some { o with slots := sl }
 free : ∀ b o,h.get? b = some o -> H b = none -> b ∉ ex -> H' b = none
 there : ∀ b o,h.get? b = some o -> b ∉ ex -> ∃ o',h'.get? b = some o'
 tups : ∀ b xs,H b = some (.tup xs) -> H' b = some (.tup xs)
 frzs : ∀ b o u,H b = some (.frz o u) -> H' b = some (.frz o u)
 tbls : ∀ b ps,H b = some (.tbl ps) -> ∃ more,H' b = some (.tbl (ps ++ more))
section
variable {fs fs' ex ex' : List Addr} {H H1 H2 : Hp} {h h1 h2 h' : Heap} {a x e : Addr} {o : HO}
theorem Un.any (u : Un fs ex H H1 h h1) {b : Addr} {ob : Obj} (q : h.get? b = some ob) (n : H b = none) (hx : b ∉ ex) : ∃ sl,h1.get? b = some { ob with slots := sl } := by
 by_cases hb : b ∈ fs
 . exact u.slot b ob q n hb hx
 . exact ⟨ob.slots,u.keep b ob q n hb hx⟩
theorem Un.kept (k : ∀ b u,h.get? b = some u -> h'.get? b = some u) : Un fs ex H H h h' :=
 ⟨fun b ob q _ _ _ => k b ob q,fun b ob q _ _ _ => ⟨ob.slots,k b ob q⟩,fun _ _ _ n _ => n,fun b ob q _ => ⟨ob,k b ob q⟩,fun _ _ q => q,fun _ _ _ q => q,fun _ ps q => ⟨#[],by rw [q]; simp⟩⟩
theorem Un.refl : Un fs ex H H h h := Un.kept fun _ _ q => q
theorem Un.laid (k : ∀ b u,h.get? b = some u -> h'.get? b = some u) (hp : h.objs.size <= a) (hn : H a = none) : Un fs ex H (upd H a o) h h' where
 keep := fun b u q _ _ _ => k b u q
 slot := fun b u q _ _ _ => ⟨u.slots,k b u q⟩
 free := fun b u q n _ => by rw [upd_ne (Nat.ne_of_lt (Nat.lt_of_lt_of_le (Heap.lt_size q) hp))]; exact n
 there := fun b u q _ => ⟨u,k b u q⟩
 tups := fun b xs q => by rw [upd_ne (ne_of_none q hn)]; exact q
 frzs := fun b u xs q => by rw [upd_ne (ne_of_none q hn)]; exact q
 tbls := fun b ps q => ⟨#[],by rw [upd_ne (ne_of_none q hn),q]; simp⟩
theorem Un.write (mu : Mut (H x)) (he : e = x ∨ H e = some (.own x)) (k : ∀ b u,b ≠ e -> h.get? b = some u -> h'.get? b = some u) (heo : ∃ u,h'.get? e = some u) : Un fs ex H (upd H x o) h h' := by
 have hx : ∀ b,H b = none -> b ≠ x := fun b n z => by subst z; rw [n] at mu; exact mu
 have hb : ∀ b,H b = none -> b ≠ e := fun b n z => by
   subst z
   rcases he with r | r
   . exact hx b n r
   . rw [n] at r; cases r
 have hm : ∀ b u,H b = some u -> ¬ Mut (some u) -> b ≠ x := fun b u q nm z => by subst z; rw [q] at mu; exact nm mu
 refine ⟨fun b u q n _ _ => k b u (hb b n) q,fun b u q n _ _ => ⟨u.slots,k b u (hb b n) q⟩,fun b u q n _ => by rw [upd_ne (hx b n)]; exact n,fun b u q _ => ?_,
   fun b xs q => by rw [upd_ne (hm b _ q fun z => z)]; exact q,fun b u xs q => by rw [upd_ne (hm b _ q fun z => z)]; exact q,fun b ps q => ⟨#[],by rw [upd_ne (hm b _ q fun z => z),q]; simp⟩⟩
 by_cases hbe : b = e
 . subst hbe; exact heo
 . exact ⟨u,k b u hbe q⟩
end
def trk (h : Heap) (H : Hp) : List Addr := (List.range h.objs.size).filter fun a => (H a).isSome
def hidT (h : Heap) (H : Hp) : Heap := PySem.W.hideAll h (trk h H)
theorem hidT_size (h : Heap) (H : Hp) : (hidT h H).objs.size = h.objs.size := PySem.W.hideAll_size _ _
theorem hidT_get {h : Heap} {H : Hp} {b : Addr} {o : Obj} (e : h.get? b = some o) (n : H b = none) : (hidT h H).get? b = some o :=
 PySem.W.hideAll_get _ e fun hm => by
   have q : (H b).isSome = true := (List.mem_filter.mp hm).2
   rw [n] at q; simp at q
theorem of_hidT {h : Heap} {H : Hp} {b : Addr} {o : Obj} (e : (hidT h H).get? b = some o) : h.get? b = some o /\ H b = none := by
 have e' : h.get? b = some o := PySem.W.of_hideAll (trk h H) e
 refine ⟨e',?_⟩
 cases q : H b with
 | none => rfl
 | some x =>
   have hm : b ∈ trk h H := List.mem_filter.mpr ⟨List.mem_range.mpr (Heap.lt_size e'),by simp [q]⟩
   have z : (hidT h H).get? b = none := PySem.W.hideAll_none (trk h H) hm
   rw [z] at e; cases e
end L2
namespace L2
open PySem PySem.Spec PyProof.Rows
structure Mod (K : PySem.W.Frag) (mg : Str -> Option Value) (base : Heap) : Prop where
 kin : K.In base
 glob : base.Ns mainGlobals mg
 blt : ∃ mb,base.Ns builtinsNs mb /\ ∀ x : Str,x ≠ "__name__" -> mb x = bootBuiltins x
 nolimit : base.NoLimit
structure Cx where
 prog : Program
 w : World
 K : PySem.W.Frag
 mg : Str -> Option Value
 base : Heap
 A : Around
 N : List Str
 s₀ : Shared
 H₀ : Hp
 env : Env
 outer : List Env
 stack : List Env
 ex : List Addr
 fn : Str -> Bool
 calm : Bool
 pn : List (Addr × Obj)
 xe : Value -> Shared -> Prop
def frs (l : List Env) : List Addr := l.filterMap (·.frame)
abbrev Cx.fs (X : Cx) : List Addr := frs X.outer
def Vis (sc : Scope) (x : Str) : Prop := sc.names.lookup x = some .local ∨ sc.names.lookup x = some .cell ∨ sc.names.lookup x = some .free
def Loc (sc : Scope) (x : Str) : Prop := sc.names.lookup x = some .local ∨ sc.names.lookup x = some .cell
def Look (env : Env) (h : Heap) (m : Str -> Option Value) (x : Str) (u : Value) : Prop :=
 (env.kindOf x = some .local /\ m x = some u) ∨ ((env.kindOf x = some .cell ∨ env.kindOf x = some .free) /\ ∃ c,env.cells.lookup x = some c /\ h.IsCell c (some u))
structure Cx.Ok (X : Cx) : Prop where
 mod : Mod X.K X.mg X.base
 kind : X.env.scope.kind = .function
 glob : X.env.globals = mainGlobals
 blt : X.env.builtins = builtinsNs
 above : X.s₀.heap.objs.size <= X.env.locals
 inj : ∀ x y c,X.env.cells.lookup x = some c -> X.env.cells.lookup y = some c -> x = y
 has : ∀ x,(X.env.kindOf x = some .cell ∨ X.env.kindOf x = some .free) -> ∃ c,X.env.cells.lookup x = some c
 cab : ∀ x c,X.fn x = true -> X.env.cells.lookup x = some c -> X.s₀.heap.objs.size <= c
 hd : X.calm = true -> X.A.handled = none
 frames : X.A.frames = some X.stack
 stk : X.stack = X.outer ∨ (X.stack = X.env :: X.outer /\ X.env.frame = some X.env.locals)
 exf : ∀ b ∈ X.ex,b ≠ X.env.locals /\ ∀ x c,X.env.cells.lookup x = some c -> c ≠ b
 bs : ∀ b o,X.base.get? b = some o -> X.s₀.heap.get? b = some o /\ X.H₀ b = none
 bsz : X.base.objs.size <= X.s₀.heap.objs.size
 noex : ∀ b o,X.base.get? b = some o -> b ∉ X.ex
 exfs : ∀ b ∈ X.ex,b ∉ X.fs
 funs : X.s₀.heap.FunFrames X.base X.outer
 frf : ∀ b ∈ X.fs,X.H₀ b = none
structure Inv (X : Cx) (pins : List (Addr × Obj)) (σ : List (Option V)) (H : Hp) (s : Shared) : Prop where
 ok : X.Ok
 os : s.os = X.s₀.os
 bare : AllBare s.gens
 base : Un X.fs X.ex X.H₀ H X.s₀.heap s.heap
 loc : ∃ m,s.heap.Ns X.env.locals m /\ ∀ (i : Nat) (x : Str) (v : V),X.N[i]? = some x -> σ[i]? = some (some v) -> Vis X.env.scope x -> ∃ u,RelV v u /\ Look X.env s.heap m x u
 cell : ∀ x c,X.env.cells.lookup x = some c -> ∃ v,s.heap.IsCell c v
 free : H X.env.locals = none
 freeC : ∀ x c,X.env.cells.lookup x = some c -> H c = none
 pin : ∀ p ∈ X.pn ++ pins,s.heap.get? p.1 = some p.2 /\ H p.1 = none /\ p.1 ≠ X.env.locals /\ p.1 ∉ X.fs /\ ∀ v,p.2.data ≠ .cell v
 hok : HOk X.prog X.w H s.heap
 len : σ.length = X.N.length
section
variable {X : Cx} {pins : List (Addr × Obj)} {σ : List (Option V)} {H H' : Hp} {s : Shared} {h' : Heap}
theorem Cx.Ok.nofr (ok : X.Ok) {b : Addr} {o : Obj} (e : X.base.get? b = some o) : b ∉ X.fs := fun hb => by
 have := (ok.funs.mem hb).1
 rw [e] at this; cases this
theorem Inv.bs (I : Inv X pins σ H s) : ∀ b o,X.base.get? b = some o -> s.heap.get? b = some o /\ H b = none := fun b o e =>
 ⟨I.base.keep b o (I.ok.bs b o e).1 (I.ok.bs b o e).2 (I.ok.nofr e) (I.ok.noex b o e),I.base.free b o (I.ok.bs b o e).1 (I.ok.bs b o e).2 (I.ok.noex b o e)⟩
theorem Inv.bk (I : Inv X pins σ H s) : ∀ b o,X.base.get? b = some o -> s.heap.get? b = some o := fun b o e => (I.bs b o e).1
theorem Inv.mod (I : Inv X pins σ H s) : Mod X.K X.mg X.base := I.ok.mod
theorem Inv.kIn (I : Inv X pins σ H s) : X.K.In s.heap := I.ok.mod.kin.keeps I.bk
theorem Inv.lt (I : Inv X pins σ H s) : X.env.locals < s.heap.objs.size := let ⟨_,hn,_⟩ := I.loc; hn.lt
theorem Inv.sz (I : Inv X pins σ H s) : X.s₀.heap.objs.size <= s.heap.objs.size := Nat.le_trans I.ok.above (Nat.le_of_lt I.lt)
theorem Inv.nofs (I : Inv X pins σ H s) {a : Addr} (h : s.heap.objs.size <= a) : a ∉ X.fs := fun hb => by
 obtain ⟨_,o,ho,_⟩ := I.ok.funs.mem hb
 exact absurd (Nat.lt_of_lt_of_le (Heap.lt_size ho) (Nat.le_trans I.sz h)) (Nat.lt_irrefl _)
theorem Inv.cne (I : Inv X pins σ H s) : ∀ x c,X.env.cells.lookup x = some c -> c ≠ X.env.locals := fun x c e z => by
 obtain ⟨v,o,ho,hd⟩ := I.cell x c e
 obtain ⟨m,⟨o',es,ep,ho',hd',_⟩,_⟩ := I.loc
 rw [z,ho'] at ho; cases ho; rw [hd'] at hd; cases hd
theorem Inv.funs (I : Inv X pins σ H s) : s.heap.FunFrames X.base X.outer := by
 have all : ∀ (l : List Env),(∀ b ∈ frs l,b ∈ X.fs) -> X.s₀.heap.FunFrames X.base l -> s.heap.FunFrames X.base l := by
   intro l
   induction l with
   | nil => intro _ _; trivial
   | cons env r ih =>
     intro hs hl
     obtain ⟨hk,⟨L,o,hf,hn,ho,hd⟩,hr⟩ := hl
     have hL : L ∈ X.fs := hs L (by unfold frs; rw [List.filterMap_cons,hf]; exact List.mem_cons_self)
     obtain ⟨sl,e⟩ := I.base.slot L o ho (I.ok.frf L hL) hL fun z => I.ok.exfs L z hL
     exact ⟨hk,⟨L,_,hf,hn,e,hd⟩,ih (fun b hb => hs b (by unfold frs; rw [List.filterMap_cons,hf]; exact List.mem_cons_of_mem _ hb)) hr⟩
 exact all X.outer (fun _ hb => hb) I.ok.funs
theorem Inv.stack (I : Inv X pins σ H s) : s.heap.FunFrames X.base X.stack := by
 rcases I.ok.stk with e | ⟨e,hf⟩
 . rw [e]; exact I.funs
 . rw [e]
   obtain ⟨m,hn,_⟩ := I.loc
   refine .cons (by rw [I.ok.kind]; decide) hf hn ?_ I.funs
   exact Heap.get?_none_of_le (Nat.le_trans I.ok.bsz I.ok.above)
theorem Inv.stkSub (I : Inv X pins σ H s) : ∀ b ∈ frs X.stack,b ∈ X.env.locals :: X.fs := fun b hb => by
 rcases I.ok.stk with e | ⟨e,hf⟩
 . rw [e] at hb; exact List.mem_cons_of_mem _ hb
 . rw [e] at hb
   unfold frs at hb
   rw [List.filterMap_cons,hf] at hb
   exact hb
theorem Inv.stkFree (I : Inv X pins σ H s) : ∀ b ∈ frs X.stack,H b = none := fun b hb => by
 rcases List.mem_cons.mp (I.stkSub b hb) with e | hb
 . rw [e]; exact I.free
 . obtain ⟨_,o,ho,_⟩ := I.ok.funs.mem hb
   exact I.base.free b o ho (I.ok.frf b hb) fun z => I.ok.exfs b z hb
theorem Inv.step {g' : Array GenState} {t' : Nat} {d' : Drawn} {ch : List Addr} (I : Inv X pins σ H s)
   (hch : ∀ b ∈ ch,(b ∈ X.ex ∨ X.s₀.heap.objs.size <= b) /\ b ≠ X.env.locals /\ (∀ x c,X.env.cells.lookup x = some c -> c ≠ b) /\ ∀ p ∈ X.pn ++ pins,p.1 ≠ b)
   (keep : ∀ b o,b ≠ X.env.locals -> b ∉ X.fs -> b ∉ ch -> s.heap.get? b = some o -> H b = none -> h'.get? b = some o)
   (slot : ∀ b o,b ≠ X.env.locals -> b ∈ X.fs -> b ∉ ch -> s.heap.get? b = some o -> H b = none -> ∃ sl,h'.get? b = some { o with slots := sl }) (free : ∀ b o,b ∉ ch -> s.heap.get? b = some o -> H b = none -> H' b = none)
   (there : ∀ b o,b ∉ ch -> s.heap.get? b = some o -> ∃ o',h'.get? b = some o')
   (tups : ∀ b xs,H b = some (.tup xs) -> H' b = some (.tup xs)) (frzs : ∀ b o u,H b = some (.frz o u) -> H' b = some (.frz o u)) (tbls : ∀ b ps,H b = some (.tbl ps) -> ∃ more,H' b = some (.tbl (ps ++ more)))
   (ns : ∀ m,s.heap.Ns X.env.locals m -> h'.Ns X.env.locals m) (hok : HOk X.prog X.w H' h') (hg : AllBare g') :
   Inv X pins σ H' { s with heap := h',gens := g',drawn := d',toks := t' } := by
 have neL : ∀ b o,X.s₀.heap.get? b = some o -> b ≠ X.env.locals := fun b o e => Nat.ne_of_lt (Nat.lt_of_lt_of_le (Heap.lt_size e) I.ok.above)
 have neC : ∀ b o,X.s₀.heap.get? b = some o -> b ∉ X.ex -> b ∉ ch := fun b o e hx hb => by
   rcases (hch b hb).1 with z | z
   . exact hx z
   . exact absurd (Nat.lt_of_lt_of_le (Heap.lt_size e) z) (Nat.lt_irrefl _)
 have cellK : ∀ x c,X.env.cells.lookup x = some c -> ∀ v,s.heap.IsCell c v -> h'.IsCell c v := fun x c e v ⟨o,ho,hd⟩ => by
   have nch : c ∉ ch := fun z => (hch c z).2.2.1 x c e rfl
   by_cases hc : c ∈ X.fs
   . obtain ⟨sl,q⟩ := slot c o (I.cne x c e) hc nch ho (I.freeC x c e)
     exact ⟨_,q,hd⟩
   . exact ⟨o,keep c o (I.cne x c e) hc nch ho (I.freeC x c e),hd⟩
 refine ⟨I.ok,I.os,hg,⟨fun b o e n hb hx => ?_,fun b o e n hb hx => ?_,fun b o e n hx => ?_,fun b o e hx => ?_,fun b xs e => tups b xs (I.base.tups b xs e),fun b o xs e => frzs b o xs (I.base.frzs b o xs e),fun b ps e => ?_⟩,?_,fun x c e => ?_,?_,fun x c e => ?_,fun p hp => ?_,hok,I.len⟩
 . exact keep b o (neL b o e) hb (neC b o e hx) (I.base.keep b o e n hb hx) (I.base.free b o e n hx)
 . obtain ⟨sl,e1⟩ := I.base.slot b o e n hb hx
   obtain ⟨sl',e2⟩ := slot b _ (neL b o e) hb (neC b o e hx) e1 (I.base.free b o e n hx)
   exact ⟨sl',e2⟩
 . obtain ⟨o',e1⟩ := I.base.there b o e hx
   exact free b o' (neC b o e hx) e1 (I.base.free b o e n hx)
 . obtain ⟨o',e1⟩ := I.base.there b o e hx
   exact there b o' (neC b o e hx) e1
 . obtain ⟨m1,e1⟩ := I.base.tbls b ps e
   obtain ⟨m2,e2⟩ := tbls b _ e1
   exact ⟨m1 ++ m2,by rw [e2,Array.append_assoc]⟩
 . obtain ⟨m,hn,hl⟩ := I.loc
   refine ⟨m,ns m hn,fun i x v e1 e2 e3 => ?_⟩
   obtain ⟨u,r,l⟩ := hl i x v e1 e2 e3
   refine ⟨u,r,?_⟩
   rcases l with l | ⟨k,c,e,z⟩
   . exact .inl l
   . exact .inr ⟨k,c,e,cellK x c e _ z⟩
 . obtain ⟨v,z⟩ := I.cell x c e
   exact ⟨v,cellK x c e v z⟩
 . obtain ⟨m,⟨o,_,_,ho,_⟩,_⟩ := I.loc
   exact free _ o (fun z => (hch _ z).2.1 rfl) ho I.free
 . obtain ⟨v,o,ho,hd⟩ := I.cell x c e
   exact free c o (fun z => (hch c z).2.2.1 x c e rfl) ho (I.freeC x c e)
 . obtain ⟨e,n,ne,nf,d⟩ := I.pin p hp
   have nch : p.1 ∉ ch := fun z => (hch p.1 z).2.2.2 p hp rfl
   exact ⟨keep p.1 p.2 ne nf nch e n,free p.1 p.2 nch e n,ne,nf,d⟩
theorem Inv.un {t' : Nat} (I : Inv X pins σ H s) (u : Un X.fs [] H H' s.heap h') (hok : HOk X.prog X.w H' h') : Inv X pins σ H' { s with heap := h',toks := t' } := by
 obtain ⟨m,⟨o,es,ep,ho,r⟩,_⟩ := id I.loc
 obtain ⟨sl,hL⟩ := u.any ho I.free (by simp)
 exact I.step (g' := s.gens) (d' := s.drawn) (ch := []) (fun _ z => nomatch z) (fun b o _ hb _ e n => u.keep b o e n hb (by simp)) (fun b o _ hb _ e n => u.slot b o e n hb (by simp)) (fun b o _ e n => u.free b o e n (by simp)) (fun b o _ e => u.there b o e (by simp)) u.tups u.frzs u.tbls (fun m' hm => by
   obtain ⟨o',es',ep',ho',r'⟩ := hm
   rw [ho] at ho'; cases ho'
   exact ⟨_,es',ep',hL,r'⟩) hok I.bare
theorem Inv.call {g' : Array GenState} {t' : Nat} {d' : Drawn} {ch : List Addr} (I : Inv X pins σ H s) (u : Un (frs X.stack) ch H H' s.heap h') (hok : HOk X.prog X.w H' h') (hg : AllBare g')
   (hch : ∀ b ∈ ch,(b ∈ X.ex ∨ X.s₀.heap.objs.size <= b) /\ b ≠ X.env.locals /\ (∀ x c,X.env.cells.lookup x = some c -> c ≠ b) /\ ∀ p ∈ X.pn ++ pins,p.1 ≠ b) :
   Inv X pins σ H' { s with heap := h',gens := g',drawn := d',toks := t' } := by
 obtain ⟨m,⟨o,es,ep,ho,r⟩,_⟩ := id I.loc
 obtain ⟨sl,hL⟩ := u.any ho I.free fun z => (hch _ z).2.1 rfl
 exact I.step (ch := ch) hch (fun b o hL hb hc e n => u.keep b o e n (fun z => (List.mem_cons.mp (I.stkSub b z)).elim hL hb) hc) (fun b o _ _ hc e n => u.any e n hc) (fun b o hc e n => u.free b o e n hc) (fun b o hc e => u.there b o e hc) u.tups u.frzs u.tbls (fun m' hm => by
   obtain ⟨o',es',ep',ho',r'⟩ := hm
   rw [ho] at ho'; cases ho'
   exact ⟨_,es',ep',hL,r'⟩) hok hg
theorem Inv.turned {t' : Nat} {it : Addr} (I : Inv X pins σ H s) (k : ∀ b o,b ≠ it -> s.heap.get? b = some o -> h'.get? b = some o) (hn : H it = none) (hL : it ≠ X.env.locals)
   (h1 : it ∈ X.ex ∨ X.s₀.heap.objs.size <= it) (h2 : ∀ x c,X.env.cells.lookup x = some c -> c ≠ it) (h3 : ∀ p ∈ X.pn ++ pins,p.1 ≠ it) : Inv X pins σ H { s with heap := h',toks := t' } := by
 have nit : ∀ b u,H b = some u -> b ≠ it := fun b u e z => by rw [z,hn] at e; cases e
 refine I.step (g' := s.gens) (d' := s.drawn) (ch := [it]) (fun b hb => ?_) (fun b o _ _ hc e _ => k b o (fun z => hc (by simp [z])) e) (fun b o _ _ hc e _ => ⟨o.slots,k b o (fun z => hc (by simp [z])) e⟩) (fun _ _ _ _ n => n)
   (fun b o hc e => ⟨o,k b o (fun z => hc (by simp [z])) e⟩) (fun _ _ e => e) (fun _ _ _ e => e) (fun b ps e => ⟨#[],by rw [e]; simp⟩) (fun m hm => ?_) (fun b u e => ?_) I.bare
 . have e : b = it := by simpa using hb
   subst e
   exact ⟨h1,hL,h2,h3⟩
 . obtain ⟨o,es,ep,ho,r⟩ := hm
   exact ⟨o,es,ep,k _ o (Ne.symm hL) ho,r⟩
 . refine (I.hok b u e).stay (fun c v hc q => k c v ?_ q) (fun _ q => q) fun _ _ q => q
   rcases hc with z | z
   . rw [z]; exact nit b u e
   . exact nit c _ z
theorem Inv.tok (I : Inv X pins σ H s) (t : Nat) : Inv X pins σ H { s with toks := t } := I.un (h' := s.heap) (t' := t) Un.refl I.hok
theorem Inv.kept {t' : Nat} (I : Inv X pins σ H s) (k : ∀ b u,s.heap.get? b = some u -> h'.get? b = some u) : Inv X pins σ H { s with heap := h',toks := t' } := I.un (Un.kept k) (I.hok.kept k)
theorem Inv.laid {a : Addr} {o : HO} {t' : Nat} (I : Inv X pins σ H s) (k : ∀ b u,s.heap.get? b = some u -> h'.get? b = some u) (hp : s.heap.objs.size <= a) (new : ObjOk X.prog X.w (upd H a o) h' a o) :
   Inv X pins σ (upd H a o) { s with heap := h',toks := t' } := I.un (Un.laid k hp (I.hok.fresh hp)) (I.hok.laid k hp new)
theorem Inv.write {x e : Addr} {o : HO} {t' : Nat} (I : Inv X pins σ H s) (mu : Mut (H x)) (he : e = x ∨ H e = some (.own x)) (k : ∀ b u,b ≠ e -> s.heap.get? b = some u -> h'.get? b = some u) (heo : ∃ u,h'.get? e = some u)
   (new : ObjOk X.prog X.w (upd H x o) h' x o) : Inv X pins σ (upd H x o) { s with heap := h',toks := t' } := I.un (Un.write mu he k heo) (I.hok.write mu he k heo new)
theorem Inv.pins_of {pins' : List (Addr × Obj)} (I : Inv X pins σ H s) (h : ∀ p ∈ pins',s.heap.get? p.1 = some p.2 /\ H p.1 = none /\ p.1 ≠ X.env.locals /\ p.1 ∉ X.fs /\ ∀ v,p.2.data ≠ .cell v) : Inv X pins' σ H s :=
 ⟨I.ok,I.os,I.bare,I.base,I.loc,I.cell,I.free,I.freeC,fun p hp => (List.mem_append.mp hp).elim (fun z => I.pin p (List.mem_append_left _ z)) (h p),I.hok,I.len⟩
theorem nodup_ix {N : List Str} (hN : N.Nodup) {i j : Nat} {x : Str} (a : N[i]? = some x) (b : N[j]? = some x) : i = j := by
 obtain ⟨h1,e1⟩ := List.getElem?_eq_some_iff.mp a
 obtain ⟨h2,e2⟩ := List.getElem?_eq_some_iff.mp b
 exact (List.getElem_inj hN).mp (e1.trans e2.symm)
theorem store_ok2 {M : Model} {A : Around} {E : Value -> Shared -> Prop} {i : Nat} {x : Str} {v : V} {u : Value} {Q : Unit -> Shared -> Prop} (I : Inv X pins σ H s) (hN : X.N.Nodup) (hi : X.N[i]? = some x) (hx : Loc X.env.scope x) (r : RelV v u)
   (h : ∀ s',Inv X pins (σ.set i (some v)) H s' -> (∃ a,Heap.SameBut a s.heap s'.heap /\ (a = X.env.locals ∨ X.env.cells.lookup x = some a)) -> Q () s') (hf : X.fn x = true ∨ X.env.scope.names.lookup x = some .local := by first | exact .inl rfl | exact .inr rfl | assumption) : wpAny M A (storeName X.env x u) Q E s := by
 obtain ⟨m,hn,hl⟩ := id I.loc
 have hcls : (X.env.scope.kind == .class || (X.env.scope.kind == .module && X.env.locals != X.env.globals)) = false := by rw [I.ok.kind]; rfl
 have hiσ : i < σ.length := by rw [I.len]; exact (List.getElem?_eq_some_iff.mp hi).1
 have cne := I.cne
 have tracked : ∀ {a : Addr} {h' : Heap},(∃ o,s.heap.get? a = some o /\ H a = none) -> Heap.SameBut a s.heap h' -> HOk X.prog X.w H h' := fun {a h'} ha hs b ob e => by
   obtain ⟨_,_,hfree⟩ := ha
   refine (I.hok b ob e).stay (fun c w' hc q => (hs.2 c ?_).trans q) (fun _ q => q) fun _ _ q => q
   rintro rfl
   rcases hc with rfl | hc
   . rw [hfree] at e; cases e
   . rw [hfree] at hc; cases hc
 rcases hx with hk | hk
 . refine wpAny_storeName_local hk hn (fun h' hn' hs => ?_) hcls
   obtain ⟨oL,_,_,hoL,_⟩ := id hn
   refine h _ ⟨I.ok,I.os,I.bare,⟨fun b o e n hb hx => ?_,fun b o e n hb hx => ?_,I.base.free,fun b o e hx => ?_,I.base.tups,I.base.frzs,I.base.tbls⟩,⟨_,hn',fun j y v' e1 e2 e3 => ?_⟩,fun y c e => ?_,I.free,I.freeC,fun p hp => ?_,tracked ⟨oL,hoL,I.free⟩ hs,by simpa using I.len⟩ ⟨_,hs,.inl rfl⟩
   . exact (hs.2 b (Nat.ne_of_lt (Nat.lt_of_lt_of_le (Heap.lt_size e) I.ok.above))).trans (I.base.keep b o e n hb hx)
   . obtain ⟨sl,e1⟩ := I.base.slot b o e n hb hx
     exact ⟨sl,(hs.2 b (Nat.ne_of_lt (Nat.lt_of_lt_of_le (Heap.lt_size e) I.ok.above))).trans e1⟩
   . obtain ⟨o',e1⟩ := I.base.there b o e hx
     exact ⟨o',(hs.2 b (Nat.ne_of_lt (Nat.lt_of_lt_of_le (Heap.lt_size e) I.ok.above))).trans e1⟩
   . by_cases hj : j = i
     . subst hj
       rw [hi] at e1; cases e1
       rw [List.getElem?_set_self hiσ] at e2
       cases e2
       exact ⟨u,r,.inl ⟨hk,by simp⟩⟩
     . rw [List.getElem?_set_ne (Ne.symm hj)] at e2
       obtain ⟨u',r',q⟩ := hl j y v' e1 e2 e3
       refine ⟨u',r',?_⟩
       rcases q with ⟨k,e⟩ | ⟨k,c,e,z⟩
       . refine .inl ⟨k,?_⟩
         have : y ≠ x := fun e => hj (nodup_ix hN e1 (e ▸ hi))
         simp [this,e]
       . exact .inr ⟨k,c,e,z.sameBut hs (cne y c e)⟩
   . obtain ⟨w',z⟩ := I.cell y c e
     exact ⟨w',z.sameBut hs (cne y c e)⟩
   . obtain ⟨e,n,ne,nf,d⟩ := I.pin p hp
     exact ⟨(hs.2 p.1 ne).trans e,n,ne,nf,d⟩
 . have hfn : X.fn x = true := by
     rcases hf with z | z
     . exact z
     . rw [z] at hk; cases hk
   obtain ⟨c,hc⟩ := I.ok.has x (.inl hk)
   obtain ⟨w',z⟩ := I.cell x c hc
   refine wpAny_storeName_cell I.ok.kind hk hc z (fun h' hc' hs => ?_)
   obtain ⟨oc,hoc,hocd⟩ := id z
   refine h { s with heap := h' } ⟨I.ok,I.os,I.bare,⟨fun b o e n hb hx => ?_,fun b o e n hb hx => ?_,I.base.free,fun b o e hx => ?_,I.base.tups,I.base.frzs,I.base.tbls⟩,⟨m,hn.sameBut hs (Ne.symm (cne x c hc)),fun j y v' e1 e2 e3 => ?_⟩,fun y c' e => ?_,I.free,I.freeC,fun p hp => ?_,tracked ⟨oc,hoc,I.freeC x c hc⟩ hs,by simpa using I.len⟩ ⟨c,hs,.inr hc⟩
   . exact (hs.2 b (Nat.ne_of_lt (Nat.lt_of_lt_of_le (Heap.lt_size e) (I.ok.cab x c hfn hc)))).trans (I.base.keep b o e n hb hx)
   . obtain ⟨sl,e1⟩ := I.base.slot b o e n hb hx
     exact ⟨sl,(hs.2 b (Nat.ne_of_lt (Nat.lt_of_lt_of_le (Heap.lt_size e) (I.ok.cab x c hfn hc)))).trans e1⟩
   . obtain ⟨o',e1⟩ := I.base.there b o e hx
     exact ⟨o',(hs.2 b (Nat.ne_of_lt (Nat.lt_of_lt_of_le (Heap.lt_size e) (I.ok.cab x c hfn hc)))).trans e1⟩
   . by_cases hj : j = i
     . subst hj
       rw [hi] at e1; cases e1
       rw [List.getElem?_set_self hiσ] at e2
       cases e2
       exact ⟨u,r,.inr ⟨.inl hk,c,hc,hc'⟩⟩
     . rw [List.getElem?_set_ne (Ne.symm hj)] at e2
       obtain ⟨u',r',q⟩ := hl j y v' e1 e2 e3
       refine ⟨u',r',?_⟩
       rcases q with q | ⟨k,c',e,z'⟩
       . exact .inl q
       . refine .inr ⟨k,c',e,z'.sameBut hs ?_⟩
         rintro rfl
         exact hj (nodup_ix hN e1 (I.ok.inj _ _ _ e hc ▸ hi))
   . by_cases hcc : c' = c
     . subst hcc; exact ⟨_,hc'⟩
     . obtain ⟨w2,z2⟩ := I.cell y c' e
       exact ⟨w2,z2.sameBut hs hcc⟩
   . obtain ⟨e,n,ne,nf,d⟩ := I.pin p hp
     refine ⟨(hs.2 p.1 ?_).trans e,n,ne,nf,d⟩
     intro q
     rw [q,hoc] at e
     have q' : oc = p.2 := Option.some.inj e
     exact d w' (by rw [<- q']; exact hocd)
theorem store_ok {M : Model} {A : Around} {E : Value -> Shared -> Prop} {i : Nat} {x : Str} {v : V} {u : Value} {Q : Unit -> Shared -> Prop} (I : Inv X pins σ H s) (hN : X.N.Nodup) (hi : X.N[i]? = some x) (hx : Loc X.env.scope x) (r : RelV v u)
   (h : ∀ s',Inv X pins (σ.set i (some v)) H s' -> Q () s') (hf : X.fn x = true ∨ X.env.scope.names.lookup x = some .local := by first | exact .inl rfl | exact .inr rfl | assumption) : wpAny M A (storeName X.env x u) Q E s :=
 store_ok2 I hN hi hx r (fun s' I' _ => h s' I') hf
theorem Inv.call' {s' : Shared} {ch : List Addr} (I : Inv X pins σ H s) (ho : s'.os = s.os) (u : Un (frs X.stack) ch H H' s.heap s'.heap) (hok : HOk X.prog X.w H' s'.heap) (hg : AllBare s'.gens)
   (hch : ∀ b ∈ ch,(b ∈ X.ex ∨ X.s₀.heap.objs.size <= b) /\ b ≠ X.env.locals /\ (∀ x c,X.env.cells.lookup x = some c -> c ≠ b) /\ ∀ p ∈ X.pn ++ pins,p.1 ≠ b) : Inv X pins σ H' s' := by
 obtain ⟨h',g',d',t',o'⟩ := s'
 have e : o' = s.os := ho
 subst e
 exact I.call (g' := g') (t' := t') (d' := d') u hok hg hch
end
abbrev XK := Value -> Option Addr -> Hp -> Prop
abbrev St := List (Option V)
abbrev VK := V -> Hp -> Prop
abbrev TE := St -> Hp -> VK -> Prop
abbrev TT := St -> Hp -> (Bool -> Hp -> Prop) -> Prop
abbrev TA := St -> Hp -> (List V -> Hp -> Prop) -> Prop
structure Ends where
 nx : St -> Hp -> Prop
 rt : VK
 bk : St -> Hp -> Prop := fun _ _ => False
 ct : St -> Hp -> Prop := fun _ _ => False
abbrev TS := Ends -> St -> Hp -> Prop
def EP (X : Cx) (pins : List (Addr × Obj)) (σ : St) (Q : VK) (u : Value) (s' : Shared) : Prop := ∃ v H',Inv X pins σ H' s' /\ RelV v u /\ Q v H'
def TP (X : Cx) (pins : List (Addr × Obj)) (σ : St) (Q : Bool -> Hp -> Prop) (b : Bool) (s' : Shared) : Prop := ∃ H',Inv X pins σ H' s' /\ Q b H'
def AP (X : Cx) (pins : List (Addr × Obj)) (σ : St) (Q : List V -> Hp -> Prop) (us : List Value) (s' : Shared) : Prop := ∃ vs H',Inv X pins σ H' s' /\ Vals vs us /\ Q vs H'
def SP (X : Cx) (pins : List (Addr × Obj)) (D : Ends) (f : Flow) (s' : Shared) : Prop :=
 match f with
 | .next => ∃ σ' H',Inv X pins σ' H' s' /\ D.nx σ' H'
 | .brk => ∃ σ' H',Inv X pins σ' H' s' /\ D.bk σ' H'
 | .cont => ∃ σ' H',Inv X pins σ' H' s' /\ D.ct σ' H'
 | .ret u => ∃ v σ' H',Inv X pins σ' H' s' /\ RelV v u /\ D.rt v H'
def PE (X : Cx) (e : Expr) (t : TE) : Prop :=
 ∀ (pins : List (Addr × Obj)) (s : Shared) (σ : St) (H : Hp) (Q : VK),Inv X pins σ H s -> t σ H Q -> wpAny (model X.prog X.w) X.A (eval e X.env) (EP X pins σ Q) X.xe s
def PT (X : Cx) (e : Expr) (t : TT) : Prop :=
 ∀ (pins : List (Addr × Obj)) (s : Shared) (σ : St) (H : Hp) (Q : Bool -> Hp -> Prop),Inv X pins σ H s -> t σ H Q -> wpAny (model X.prog X.w) X.A (isTrue e X.env (eval e X.env)) (TP X pins σ Q) X.xe s
def PW (X : Cx) (e : Expr) (t : TT) : Prop :=
 ∀ (whole : Sem Value) (pins : List (Addr × Obj)) (s : Shared) (σ : St) (H : Hp) (Q : Bool -> Hp -> Prop),Inv X pins σ H s -> t σ H Q -> wpAny (model X.prog X.w) X.A (isTrue e X.env whole) (TP X pins σ Q) X.xe s
theorem PW.pt {X : Cx} {e : Expr} {t : TT} (h : PW X e t) : PT X e t := h _
def PA (X : Cx) (es : List Expr) (t : TA) : Prop :=
 ∀ (pos : Pos) (pins : List (Addr × Obj)) (s : Shared) (σ : St) (H : Hp) (Q : List V -> Hp -> Prop),Inv X pins σ H s -> t σ H Q -> wpAny (model X.prog X.w) X.A (spliced (backTo pos (starEach es X.env))) (AP X pins σ Q) X.xe s
def PS (X : Cx) (st : Stmt) (t : TS) : Prop :=
 ∀ (pins : List (Addr × Obj)) (s : Shared) (σ : St) (H : Hp) (D : Ends),Inv X pins σ H s -> t D σ H -> wpAny (model X.prog X.w) X.A (exec st X.env) (SP X pins D) X.xe s
def PSs (X : Cx) (st : List Stmt) (t : TS) : Prop :=
 ∀ (pins : List (Addr × Obj)) (s : Shared) (σ : St) (H : Hp) (D : Ends),Inv X pins σ H s -> t D σ H -> wpAny (model X.prog X.w) X.A (execs st X.env) (SP X pins D) X.xe s
theorem thn {α : Type} {t : Sem α} {Q Q' : α -> Shared -> Prop} {M : Model} {A : Around} {E : Value -> Shared -> Prop} {s : Shared} (h : wpAny M A t Q E s) (hQ : ∀ a s,Q a s -> Q' a s) : wpAny M A t Q' E s := wpAny_mono h hQ fun _ _ x => x
end L2
namespace L2
open PySem PySem.Spec PyProof.Rows
section
variable {X : Cx}
theorem bin {a b : Expr} {ta tb : TE} (ha : PE X a ta) (hb : PE X b tb) {pins : List (Addr × Obj)} {s : Shared} {σ : St} {H : Hp} {R : V -> V -> Hp -> Prop} (I : Inv X pins σ H s) (h : ta σ H fun x H1 => tb σ H1 fun y H2 => R x y H2)
   {α : Type} {Q : α -> Shared -> Prop} {f : Value -> Value -> Sem α}
   (hf : ∀ v u s2 x y H2,Inv X pins σ H2 s2 -> RelV x v -> RelV y u -> R x y H2 -> wpAny (model X.prog X.w) X.A (f v u) Q X.xe s2) :
   wpAny (model X.prog X.w) X.A (eval a X.env) (fun v s₁ => wpAny (model X.prog X.w) X.A (eval b X.env) (fun u s₂ => wpAny (model X.prog X.w) X.A (f v u) Q X.xe s₂) X.xe s₁) X.xe s := by
 refine thn (ha pins s σ H _ I h) fun v s1 ⟨x,H1,I1,r1,q1⟩ => ?_
 refine thn (hb pins s1 σ H1 _ I1 q1) fun u s2 ⟨y,H2,I2,r2,q2⟩ => ?_
 exact hf v u s2 x y H2 I2 r1 r2 q2
def tVar (i : Nat) : TE := fun σ H Q => ∃ v,σ[i]? = some (some v) /\ Q v H
def tC (v : V) : TE := fun _ H Q => Q v H
theorem pe_var {i : Nat} {x : Str} {pos : Pos} (hN : X.N[i]? = some x) (hv : Vis X.env.scope x) (hd : (x == ("__debug__" : Str)) = false := by decide) (hcd : (x == ("__classdict__" : Str)) = false := by decide) : PE X (.Name x pos) (tVar i) := by
 intro pins s σ H Q I h
 obtain ⟨v,e,h⟩ := h
 obtain ⟨m,hn,hl⟩ := I.loc
 obtain ⟨u,r,l⟩ := hl i x v hN e hv
 have fin : EP X pins σ Q u s := ⟨v,H,I,r,h⟩
 rcases l with ⟨hk,hm⟩ | ⟨hk,c,hc,hcell⟩
 . exact wpAny_Name (wpAny_loadName_local I.ok.kind hk hn hm fin) hd
 . rcases hk with hk | hk
   . exact wpAny_Name (wpAny_loadName_cell I.ok.kind hk hc hcell fin) hd
   . exact wpAny_Name (wpAny_loadName_free I.ok.kind hk hc hcell fin hcd) hd
theorem pe_int {i j pos} : PE X (.Constant (.int i) j pos) (tC (.int i)) := fun _ _ _ H _ I h => wpAny_Constant_int ⟨.int i,H,I.tok _,⟨_,rfl⟩,h⟩
theorem pe_bl {b j pos} : PE X (.Constant (.bool b) j pos) (tC (.bl b)) := fun _ _ _ H _ I h => Constant_bool ⟨.bl b,H,I,rfl,h⟩
theorem pe_non {j pos} : PE X (.Constant .none j pos) (tC .non) := fun _ _ _ H _ I h => Constant_none ⟨.non,H,I,rfl,h⟩
theorem pe_str {x j pos} : PE X (.Constant (.str x) j pos) (tC (.str x)) := fun _ _ _ H _ I h => Calls.Constant_str ⟨.str x,H,I.tok _,⟨_,rfl⟩,h⟩
def Gl (X : Cx) (x : Str) : Prop := X.env.kindOf x = some .globalImplicit
theorem ld_glob {E : Value -> Shared -> Prop} {pins : List (Addr × Obj)} {s : Shared} {σ : St} {H : Hp} {x : Str} {u : Value} {pos : Pos} {Q : Value -> Shared -> Prop} (I : Inv X pins σ H s) (hg : Gl X x) (hm : X.mg x = some u) (h : Q u s)
   (hd : (x == ("__debug__" : Str)) = false := by decide) : wpAny (model X.prog X.w) X.A (eval (.Name x pos) X.env) Q E s :=
 Calls.Name_function_global I.ok.kind hg (Calls.loadGlobal_global (by rw [I.ok.glob]; exact I.mod.glob.keeps I.bk) hm h) hd
theorem ld_blt {E : Value -> Shared -> Prop} {pins : List (Addr × Obj)} {s : Shared} {σ : St} {H : Hp} {x : Str} {u : Value} {pos : Pos} {Q : Value -> Shared -> Prop} (I : Inv X pins σ H s) (hg : Gl X x) (hm : X.mg x = none) (hv : bootBuiltins x = some u) (h : Q u s)
   (hn : x ≠ "__name__" := by decide) (hd : (x == ("__debug__" : Str)) = false := by decide) : wpAny (model X.prog X.w) X.A (eval (.Name x pos) X.env) Q E s := by
 obtain ⟨mb,h1,h2⟩ := I.mod.blt
 exact Calls.Name_function_global I.ok.kind hg (Calls.loadGlobal_builtin (by rw [I.ok.glob]; exact I.mod.glob.keeps I.bk) hm (by rw [I.ok.blt]; exact h1.keeps I.bk) ((h2 x hn).trans hv) h) hd
theorem pe_glob {x : Str} {v : V} {u : Value} {pos : Pos} (hg : Gl X x) (hm : X.mg x = some u) (r : RelV v u) (hd : (x == ("__debug__" : Str)) = false := by decide) : PE X (.Name x pos) (tC v) :=
 fun _ _ _ H _ I h => ld_glob I hg hm ⟨v,H,I,r,h⟩ hd
theorem pe_bltn {x : Str} {v : V} {u : Value} {pos : Pos} (hg : Gl X x) (hm : X.mg x = none) (hv : bootBuiltins x = some u) (r : RelV v u) (hn : x ≠ "__name__" := by decide) (hd : (x == ("__debug__" : Str)) = false := by decide) : PE X (.Name x pos) (tC v) :=
 fun _ _ _ H _ I h => ld_blt I hg hm hv ⟨v,H,I,r,h⟩ hn hd
variable {a b : Expr} {ta tb : TE} {pos : Pos}
def PC (X : Cx) (op : CmpOp) (a b : Expr) (t : TE) : Prop :=
 ∀ (pins : List (Addr × Obj)) (s : Shared) (σ : St) (H : Hp) (Q : VK),Inv X pins σ H s -> t σ H Q ->
   wpAny (model X.prog X.w) X.A (eval a X.env) (fun v s₁ => wpAny (model X.prog X.w) X.A (eval b X.env) (fun u s₂ => wpAny (model X.prog X.w) X.A (compareOp op v u) (EP X pins σ Q) X.xe s₂) X.xe s₁) X.xe s
theorem nobehind (b : Expr) {op : CmpOp} (h : op ≠ .In) (h2 : op ≠ .NotIn) : behindInMarks op b = false := by
 have e1 : (op == CmpOp.In) = false := by cases op <;> first | rfl | exact absurd rfl h
 have e2 : (op == CmpOp.NotIn) = false := by cases op <;> first | rfl | exact absurd rfl h2
 cases b <;> simp [behindInMarks,e1,e2]
def tIsN (ta : TE) : TE := fun σ H Q => ta σ H fun x H1 => Q (.bl (decide (x = .non))) H1
def tNotN (ta : TE) : TE := fun σ H Q => ta σ H fun x H1 => Q (.bl (!decide (x = .non))) H1
theorem RelV.none_iff {x : V} {v : Value} (r : RelV x v) : (v == Value.none) = decide (x = .non) := by
 cases x with
 | non => cases r; rfl
 | bl _ => cases r; rfl
 | int _ => obtain ⟨t,rfl⟩ := r; rfl
 | str _ => obtain ⟨t,rfl⟩ := r; rfl
 | byt _ => obtain ⟨t,rfl⟩ := r; rfl
 | flt _ => obtain ⟨t,rfl⟩ := r; rfl
 | ref _ => cases r; rfl
 | ty _ => cases r; rfl
theorem pc_isN {j pos'} (ha : PE X a ta) : PC X .Is a (.Constant .none j pos') (tIsN ta) := by
 intro pins s σ H Q I h
 refine thn (ha pins s σ H _ I h) fun v s1 ⟨x,H1,I1,r1,q1⟩ => ?_
 exact Constant_none (is_none_gen ⟨.bl _,H1,I1,by rw [r1.none_iff]; rfl,q1⟩)
theorem pc_notN {j pos'} (ha : PE X a ta) : PC X .IsNot a (.Constant .none j pos') (tNotN ta) := by
 intro pins s σ H Q I h
 refine thn (ha pins s σ H _ I h) fun v s1 ⟨x,H1,I1,r1,q1⟩ => ?_
 exact Constant_none (isnot_none_gen ⟨.bl _,H1,I1,by rw [r1.none_iff]; rfl,q1⟩)
def tB (t : TE) : TT := fun σ H Q => t σ H fun x H1 => ∃ c,x = .bl c /\ Q c H1
theorem pe_cmp {op : CmpOp} {t : TE} (h : PC X op a b t) (h1 : behindInMarks op b = false := by first | exact nobehind _ (by decide) (by decide) | rfl) : PE X (.Compare a [op] [b] pos) t := fun pins s σ H Q I hw => wpAny_Compare1 (h pins s σ H Q I hw) h1
theorem pt_cmp {op : CmpOp} {t : TE} (h : PC X op a b t) (h1 : behindInMarks op b = false := by first | exact nobehind _ (by decide) (by decide) | rfl) : PT X (.Compare a [op] [b] pos) (tB t) := by
 intro pins s σ H Q I hw
 refine wpAny_isTrue_Compare1 (thn (h pins s σ H _ I hw) fun v s1 h1 => thn h1 fun u s2 h2 => thn h2 fun c s3 ⟨x,H1,I1,r1,q1⟩ => ?_) h1
 obtain ⟨d,rfl,q⟩ := q1
 cases r1
 exact wpAny_truthy_bool ⟨H1,I1,q⟩
variable {tA tB' : TT} {rest : List Expr}
def tAnd (t u : TT) : TT := fun σ H Q => t σ H fun c H1 => if c = true then u σ H1 Q else Q false H1
def tOr (t u : TT) : TT := fun σ H Q => t σ H fun c H1 => if c = true then Q true H1 else u σ H1 Q
def tNot (t : TT) : TT := fun σ H Q => t σ H fun c H1 => Q (!c) H1
theorem pw_and1 (ha : PT X a tA) : PW X (.BoolOp .And [a] pos) tA := by
 intro wh pins s σ H Q I h
 refine isTrue_and (thn (ha pins s σ H Q I h) fun c s1 e => ?_)
 cases c with
 | true => exact isTrue_and_nil e
 | false => exact e
theorem pw_or1 (ha : PT X a tA) : PW X (.BoolOp .Or [a] pos) tA := by
 intro wh pins s σ H Q I h
 refine isTrue_or (thn (ha pins s σ H Q I h) fun c s1 e => ?_)
 cases c with
 | false => exact isTrue_or_nil e
 | true => exact e
theorem pw_and (ha : PT X a tA) (hb : PW X (.BoolOp .And (b :: rest) pos) tB') : PW X (.BoolOp .And (a :: b :: rest) pos) (tAnd tA tB') := by
 intro wh pins s σ H Q I h
 refine isTrue_and (thn (ha pins s σ H _ I h) fun c s1 ⟨H1,I1,q1⟩ => ?_)
 cases c with
 | true => exact hb wh pins s1 σ H1 Q I1 q1
 | false => exact ⟨H1,I1,q1⟩
theorem pw_or (ha : PT X a tA) (hb : PW X (.BoolOp .Or (b :: rest) pos) tB') : PW X (.BoolOp .Or (a :: b :: rest) pos) (tOr tA tB') := by
 intro wh pins s σ H Q I h
 refine isTrue_or (thn (ha pins s σ H _ I h) fun c s1 ⟨H1,I1,q1⟩ => ?_)
 cases c with
 | true => exact ⟨H1,I1,q1⟩
 | false => exact hb wh pins s1 σ H1 Q I1 q1
theorem pt_not (ha : PT X a tA) : PT X (.UnaryOp .Not a pos) (tNot tA) := by
 intro pins s σ H Q I h
 exact isTrue_not (ha pins s σ H (fun c H1 => Q (!c) H1) I h)
theorem pe_one {op} {t : TE} (h : PE X a t) : PE X (.BoolOp op [a] pos) t := fun pins s σ H Q I hw => BoolOp_one (h pins s σ H Q I hw)
end
end L2
namespace L2
open PySem PySem.Spec PyProof.Rows
def SqL (K : PySem.W.Frag) (H : Hp) (a : Addr) (xs : List V) : Prop :=
 Rd H a (.lst xs) ∨
   ∃ (o : Obj) (its : Array Value) (n : Nat),K.lookup a = some o /\ o.cls = .type "list" /\ o.dict = none /\ o.data = .seq its n /\ its.size <= sizeLine /\ Vals xs its.toList
def SqT (K : PySem.W.Frag) (H : Hp) (a : Addr) (xs : List V) : Prop :=
 Rd H a (.tup xs) ∨
   ∃ (o : Obj) (its : Array Value) (n : Nat),K.lookup a = some o /\ o.cls = .type "tuple" /\ o.data = .seq its n /\ its.size <= sizeLine /\ Vals xs its.toList
def absV : Value -> Option V
 | .none => some .non
 | .bool b => some (.bl b)
 | .int i _ => some (.int i)
 | .str x _ => some (.str x)
 | .bytes b _ => some (.byt b)
 | .float b _ => some (.flt b)
 | .ref a => some (.ref a)
 | .type n => some (.ty n)
 | _ => none
theorem RelV.abs {x : V} {u : Value} (r : RelV x u) : absV u = some x := by
 cases x with
 | non => cases r; rfl
 | bl _ => cases r; rfl
 | int _ => obtain ⟨t,rfl⟩ := r; rfl
 | str _ => obtain ⟨t,rfl⟩ := r; rfl
 | byt _ => obtain ⟨t,rfl⟩ := r; rfl
 | flt _ => obtain ⟨t,rfl⟩ := r; rfl
 | ref _ => cases r; rfl
 | ty _ => cases r; rfl
theorem RelV.inj {x y : V} {u : Value} (r : RelV x u) (q : RelV y u) : x = y := Option.some.inj (r.abs.symm.trans q.abs)
theorem Vals.inj : ∀ {xs ys : List V} {us : List Value},Vals xs us -> Vals ys us -> xs = ys
 | _,_,_,.nil,.nil => rfl
 | _,_,_,.cons r t,.cons r' t' => by rw [r.inj r',Vals.inj t t']
section
variable {X : Cx} {pins : List (Addr × Obj)} {σ : St} {H : Hp} {s : Shared} {a : Addr} {xs ys : List V}
theorem SqL.of {K : PySem.W.Frag} (h : H a = some (.lst xs)) : SqL K H a xs := .inl (.inl h)
theorem SqT.of {K : PySem.W.Frag} (h : H a = some (.tup xs)) : SqT K H a xs := .inl (.inl h)
theorem Inv.list (I : Inv X pins σ H s) (h : SqL X.K H a xs) : ∃ its : List Value,Vals xs its /\ PlainL s.heap a its.toArray /\ xs.length <= sizeLine := by
 rcases h with h | ⟨o,its,n,hk,hc,hd,hs,hz,r⟩
 . obtain ⟨z,its,n,r,e⟩ := h.ok I.hok
   exact ⟨its,r,⟨_,n,e,rfl,rfl,rfl⟩,z⟩
 . refine ⟨its.toList,r,⟨o,n,I.kIn a o hk,hc,hd,by simpa using hs⟩,?_⟩
   have e := r.length
   simp only [Array.length_toList] at e
   omega
theorem Inv.tuple (I : Inv X pins σ H s) (h : SqT X.K H a xs) : ∃ its : List Value,Vals xs its /\ IsTup s.heap a its.toArray /\ xs.length <= sizeLine := by
 rcases h with h | ⟨o,its,n,hk,hc,hs,hz,r⟩
 . obtain ⟨z,its,r,p⟩ := h.ok I.hok
   exact ⟨its,r,p,z⟩
 . refine ⟨its.toList,r,⟨o,I.kIn a o hk,hc,n,by simpa using hs⟩,?_⟩
   have e := r.length
   simp only [Array.length_toList] at e
   omega
theorem Inv.list_inj (I : Inv X pins σ H s) (h : SqL X.K H a xs) (h' : SqL X.K H a ys) : xs = ys := by
 obtain ⟨its,r,⟨o,n,e,_,_,d⟩,_⟩ := I.list h
 obtain ⟨its',r',⟨o',n',e',_,_,d'⟩,_⟩ := I.list h'
 rw [e] at e'; cases e'
 rw [d] at d'
 injection d' with d1 _
 have : its = its' := by simpa using congrArg Array.toList d1
 subst this
 exact r.inj r'
theorem Inv.tuple_inj (I : Inv X pins σ H s) (h : SqT X.K H a xs) (h' : SqT X.K H a ys) : xs = ys := by
 obtain ⟨its,r,⟨o,e,_,n,d⟩,_⟩ := I.tuple h
 obtain ⟨its',r',⟨o',e',_,n',d'⟩,_⟩ := I.tuple h'
 rw [e] at e'; cases e'
 rw [d] at d'
 injection d' with d1 _
 have : its = its' := by simpa using congrArg Array.toList d1
 subst this
 exact r.inj r'
end
abbrev Cx.wish (X : Cx) (E : Value -> Shared -> Prop) : Cx := { X with xe := E }
abbrev Cx.nox (X : Cx) : Cx := X.wish fun _ _ => False
theorem Cx.Ok.wish {X : Cx} (ok : X.Ok) (E : Value -> Shared -> Prop) : (X.wish E).Ok :=
 ⟨ok.mod,ok.kind,ok.glob,ok.blt,ok.above,ok.inj,ok.has,ok.cab,ok.hd,ok.frames,ok.stk,ok.exf,ok.bs,ok.bsz,ok.noex,ok.exfs,ok.funs,ok.frf⟩
theorem Cx.Ok.unwish {X : Cx} {E : Value -> Shared -> Prop} (ok : (X.wish E).Ok) : X.Ok :=
 ⟨ok.mod,ok.kind,ok.glob,ok.blt,ok.above,ok.inj,ok.has,ok.cab,ok.hd,ok.frames,ok.stk,ok.exf,ok.bs,ok.bsz,ok.noex,ok.exfs,ok.funs,ok.frf⟩
section
variable {X : Cx} {pins : List (Addr × Obj)} {σ : St} {H : Hp} {s : Shared} {E : Value -> Shared -> Prop}
theorem Inv.wish (I : Inv X pins σ H s) (E : Value -> Shared -> Prop) : Inv (X.wish E) pins σ H s := ⟨I.ok.wish E,I.os,I.bare,I.base,I.loc,I.cell,I.free,I.freeC,I.pin,I.hok,I.len⟩
theorem Inv.unwish (I : Inv (X.wish E) pins σ H s) : Inv X pins σ H s := ⟨I.ok.unwish,I.os,I.bare,I.base,I.loc,I.cell,I.free,I.freeC,I.pin,I.hok,I.len⟩
theorem SP.unwish {D : Ends} {f : Flow} {s' : Shared} (h : SP (X.wish E) pins D f s') : SP X pins D f s' := by
 cases f with
 | next => obtain ⟨σ',H',I,q⟩ := h; exact ⟨σ',H',I.unwish,q⟩
 | brk => obtain ⟨σ',H',I,q⟩ := h; exact ⟨σ',H',I.unwish,q⟩
 | cont => obtain ⟨σ',H',I,q⟩ := h; exact ⟨σ',H',I.unwish,q⟩
 | ret u => obtain ⟨v,σ',H',I,r,q⟩ := h; exact ⟨v,σ',H',I.unwish,r,q⟩
theorem PSs.nox {st : List Stmt} {t : TS} (h : PSs X.nox st t) : PSs X st t := fun pins s σ H D I hw =>
 wpAny_mono (h pins s σ H D (I.wish _) hw) (fun _ _ q => q.unwish) fun _ _ z => False.elim z
end
section
variable {X : Cx} {st : Stmt} {rest : List Stmt} {t u : TS} {e : Expr} {te : TE} {pos : Pos}
def tNext : TS := fun D σ H => D.nx σ H
def tSeq (t u : TS) : TS := fun D σ H => t { D with nx := u D } σ H
theorem pss_nil : PSs X [] tNext := fun _ _ σ H _ I h => wpAny_execs_nil ⟨σ,H,I,h⟩
theorem pss_cons (h1 : PS X st t) (h2 : PSs X rest u) : PSs X (st :: rest) (tSeq t u) := by
 intro pins s σ H D I h
 refine wpAny_execs_cons (thn (h1 pins s σ H { D with nx := u D } I h) fun f s1 q => ?_)
 cases f with
 | next =>
   obtain ⟨σ',H',I',q⟩ := q
   exact h2 pins s1 σ' H' D I' q
 | ret v => exact q
 | brk => exact q
 | cont => exact q
theorem pss_one (h1 : PS X st t) : PSs X [st] t := by
 intro pins s σ H D I h
 refine wpAny_execs_cons (thn (h1 pins s σ H D I h) fun f s1 q => ?_)
 cases f with
 | next => exact wpAny_execs_nil q
 | ret v => exact q
 | brk => exact q
 | cont => exact q
theorem Inv.quiet {pins : List (Addr × Obj)} {σ : St} {H : Hp} {s : Shared} (I : Inv X pins σ H s) : interactive X.env = false := by simp [interactive,I.ok.kind]
def tDrop (te : TE) : TS := fun D σ H => te σ H fun _ H1 => D.nx σ H1
theorem ps_expr (he : PE X e te) (hs : swapsWith e none pos.line X.env = pure false := by rfl) : PS X (.Expr e pos) (tDrop te) := by
 intro pins s σ H D I h
 exact wpAny_Expr_any (thn (he pins s σ H _ I h) fun v s1 ⟨x,H1,I1,r1,q1⟩ => ⟨σ,H1,I1,q1⟩) I.quiet hs
def tRet (te : TE) : TS := fun D σ H => te σ H D.rt
theorem ps_ret (he : PE X e te) : PS X (.Return (some e) pos) (tRet te) := by
 intro pins s σ H D I h
 exact wpAny_Return_some (thn (he pins s σ H _ I h) fun v s1 ⟨x,H1,I1,r1,q1⟩ => ⟨x,σ,H1,I1,r1,q1⟩)
def tIfS (c : TT) (t u : TS) : TS := fun D σ H => c σ H fun b H1 => if b = true then t D σ H1 else u D σ H1
theorem ps_if {c : Expr} {a b : List Stmt} {tc : TT} (hc : PT X c tc) (ha : PSs X a t) (hb : PSs X b u) : PS X (.If c a b pos) (tIfS tc t u) := by
 intro pins s σ H D I h
 refine wpAny_If (thn (hc pins s σ H _ I h) fun d s1 ⟨H1,I1,q1⟩ => ?_)
 cases d with
 | true => exact ha pins s1 σ H1 D I1 q1
 | false => exact hb pins s1 σ H1 D I1 q1
end
abbrev TG := V -> St -> Hp -> (St -> Hp -> Prop) -> Prop
abbrev TGs := List V -> St -> Hp -> (St -> Hp -> Prop) -> Prop
def PG (X : Cx) (target : Expr) (t : TG) : Prop :=
 ∀ (pins : List (Addr × Obj)) (s : Shared) (σ : St) (H : Hp) (v : V) (u : Value) (Q : St -> Hp -> Prop),Inv X pins σ H s -> RelV v u -> t v σ H Q ->
   wpAny (model X.prog X.w) X.A (assign target X.env u) (fun _ s' => ∃ σ' H',Inv X pins σ' H' s' /\ Q σ' H') X.xe s
def PGs (X : Cx) (ts : List Expr) (t : TGs) : Prop :=
 ∀ (pins : List (Addr × Obj)) (s : Shared) (σ : St) (H : Hp) (vs : List V) (us : List Value) (Q : St -> Hp -> Prop),Inv X pins σ H s -> Vals vs us -> t vs σ H Q ->
   wpAny (model X.prog X.w) X.A (assignInOrder ((assignEach ts X.env).map (·.2)) us) (fun _ s' => ∃ σ' H',Inv X pins σ' H' s' /\ Q σ' H') X.xe s
abbrev TSet := V -> V -> V -> Hp -> (Hp -> Prop) -> Prop
def PSet (X : Cx) (t : TSet) : Prop :=
 ∀ (pins : List (Addr × Obj)) (s : Shared) (σ : St) (H : Hp) (o i v : V) (ov iv u : Value) (Q : Hp -> Prop),Inv X pins σ H s -> RelV o ov -> RelV i iv -> RelV v u -> t o i v H Q ->
   wpAny (model X.prog X.w) X.A (setItem ov iv u) (fun _ s' => ∃ H',Inv X pins σ H' s' /\ Q H') X.xe s
section
variable {X : Cx} {pos : Pos}
def gName (i : Nat) : TG := fun v σ H Q => Q (σ.set i (some v)) H
theorem pg_name {i : Nat} {x : Str} (hN : X.N.Nodup) (hi : X.N[i]? = some x) (hx : Loc X.env.scope x) (hf : X.fn x = true ∨ X.env.scope.names.lookup x = some .local := by first | exact .inl rfl | exact .inr rfl | assumption) : PG X (.Name x pos) (gName i) := by
 intro pins s σ H v u Q I r h
 exact wpAny_assign_Name (store_ok I hN hi hx r (fun s' I' => ⟨_,H,I',h⟩) hf)
def gNil : TGs := fun vs σ H Q => vs = [] /\ Q σ H
def gCons (t : TG) (u : TGs) : TGs := fun vs σ H Q => ∃ v r,vs = v :: r /\ t v σ H fun σ' H' => u r σ' H' Q
theorem pgs_nil : PGs X [] gNil := by
 intro pins s σ H vs us Q I r h
 obtain ⟨e,h⟩ := h
 subst e
 cases r
 exact assignInOrder_nil ⟨σ,H,I,h⟩
theorem pgs_cons {e : Expr} {es : List Expr} {t : TG} {u : TGs} (h1 : PG X e t) (h2 : PGs X es u)
   (hs : (assignEach (e :: es) X.env).map (·.2) = assign e X.env :: (assignEach es X.env).map (·.2) := by rfl) : PGs X (e :: es) (gCons t u) := by
 intro pins s σ H vs us Q I r h
 obtain ⟨v,vr,e1,h⟩ := h
 subst e1
 cases r with
 | cons r rr =>
   rw [hs]
   refine assignInOrder_cons (thn (h1 pins s σ H _ _ _ I r h) fun _ s1 ⟨σ1,H1,I1,q1⟩ => ?_)
   exact h2 pins s1 σ1 H1 _ _ Q I1 rr q1
def gTup (K : PySem.W.Frag) (n : Nat) (t : TGs) : TG := fun v σ H Q => ∃ a xs,v = .ref a /\ SqT K H a xs /\ xs.length = n /\ t xs σ H Q
theorem pg_tup {es : List Expr} {k : Nat} {t : TGs} {n : Nat} (hc : X.calm = true) (h : PGs X es t)
   (hn : (assignEach es X.env).length = n := by rfl) (hst : (assignEach es X.env).findIdx? (·.1) = none := by rfl) : PG X (.Tuple es k pos) (gTup X.K n t) := by
 intro pins s σ H v u Q I r hw
 obtain ⟨a,xs,e1,hq,hl,hw⟩ := hw
 subst e1
 cases r
 obtain ⟨its,rv,ht,hz⟩ := I.tuple hq
 refine assign_Tuple_tuple (I.ok.hd hc) ht (by simp [hn,<- hl,rv.length]) hst fun h' hx => ?_
 have I1 : Inv X pins σ H { s with heap := h' } := I.kept (t' := s.toks) fun b o e => hx b o (Nat.ne_of_lt (Heap.lt_size e)) e
 exact h pins _ σ H xs _ Q I1 (by simpa using rv) hw
def gSub (to ti : TE) (t : TSet) : TG := fun v σ H Q => to σ H fun o H1 => ti σ H1 fun i H2 => t o i v H2 fun H3 => Q σ H3
theorem pg_sub {o i : Expr} {to ti : TE} {t : TSet} (ho : PE X o to) (hi : PE X i ti) (hs : PSet X t)
   (ha : ∀ v,assign (.Subscript o i pos) X.env v = (do
     let ov <- holding [v] (eval o X.env)
     let iv <- holding [v,ov] (eval i X.env)
     standAt pos
     holding [v,ov,iv] (setItem ov iv v)
     release [v,ov,iv] []) := by intro _; rfl) : PG X (.Subscript o i pos) (gSub to ti t) := by
 intro pins s σ H v u Q I r h
 rw [ha]
 refine wpAny_bind (wpAny_holding (thn (ho pins s σ H _ I h) fun ov s1 ⟨x,H1,I1,r1,q1⟩ => ?_))
 refine wpAny_bind (wpAny_holding (thn (hi pins s1 σ H1 _ I1 q1) fun iv s2 ⟨y,H2,I2,r2,q2⟩ => ?_))
 refine wpAny_bind (wpAny_standAt (wpAny_bind (wpAny_holding (thn (hs pins s2 σ H2 x y v ov iv u _ I2 r1 r2 r q2) fun _ s3 ⟨H3,I3,q3⟩ => ?_))))
 exact wpAny_release ⟨σ,H3,I3,q3⟩
def tAsg (te : TE) (g : TG) : TS := fun D σ H => te σ H fun x H1 => g x σ H1 D.nx
theorem ps_asg {tg e : Expr} {te : TE} {g : TG} (he : PE X e te) (hg : PG X tg g) (hs : swapsWithSole [tg] e pos.line X.env = pure false := by rfl) (hw : swappedStores [tg] e X.env = pure none := by rfl)
   (h1 : (assignEach [tg] X.env).map (·.2) = [assign tg X.env] := by rfl) : PS X (.Assign [tg] e pos) (tAsg te g) := by
 intro pins s σ H D I h
 refine wpAny_Assign_stores (thn (he pins s σ H _ I h) fun v s1 ⟨x,H1,I1,r1,q1⟩ => ?_) hs hw
 rw [h1]
 exact thn (hg pins s1 σ H1 x v _ I1 r1 q1) fun _ s2 q => q
theorem ps_set {i : Nat} {x : Str} {e : Expr} {te : TE} {pos' : Pos} (hN : X.N.Nodup) (hi : X.N[i]? = some x) (hx : Loc X.env.scope x) (he : PE X e te) (hs : swapsWith e (some (.Name x pos')) pos.line X.env = pure false := by rfl) (hf : X.fn x = true ∨ X.env.scope.names.lookup x = some .local := by first | exact .inl rfl | exact .inr rfl | assumption) :
   PS X (.Assign [.Name x pos'] e pos) (tAsg te (gName i)) := by
 intro pins s σ H D I h
 refine wpAny_Assign_Name (thn (he pins s σ H _ I h) fun v s1 ⟨y,H1,I1,r1,q1⟩ => ?_) hs
 exact store_ok I1 hN hi hx r1 (fun s2 I2 => ⟨_,H1,I2,q1⟩) hf
end
section
variable {X : Cx} {pos : Pos}
end
structure It where
 go : Nat -> Hp -> Prop
 yld : Nat -> Hp -> V -> Hp -> Prop
 stop : Nat -> Hp -> Prop
def FpOk (X : Cx) (pins : List (Addr × Obj)) (H : Hp) (b : Addr) : Prop :=
 H b = none /\ b ≠ X.env.locals /\ b ∉ X.fs /\ (b ∈ X.ex ∨ X.s₀.heap.objs.size <= b) /\ (∀ x c,X.env.cells.lookup x = some c -> c ≠ b) /\ ∀ p ∈ X.pn ++ pins,p.1 ≠ b
theorem Inv.fpOk {X : Cx} {pins : List (Addr × Obj)} {σ : St} {H H' : Hp} {s : Shared} {b : Addr} (I : Inv X pins σ H s) (hb : s.heap.objs.size <= b) (hn : H' b = none) : FpOk X pins H' b := by
 refine ⟨hn,Nat.ne_of_gt (Nat.lt_of_lt_of_le I.lt hb),I.nofs hb,.inr (Nat.le_trans I.sz hb),fun x c e z => ?_,fun p hp z => ?_⟩
 . obtain ⟨v,q⟩ := I.cell x c e
   exact absurd (Nat.lt_of_lt_of_le q.lt (by rw [z]; exact hb)) (Nat.lt_irrefl _)
 . exact absurd (Nat.lt_of_lt_of_le (Heap.lt_size (I.pin p hp).1) (by rw [z]; exact hb)) (Nat.lt_irrefl _)
structure Turn (P : Program) (w : World) (K : PySem.W.Frag) (tg : Expr) (J : It) (fp : List Addr) (it : Addr) (tn : Nat -> Heap -> Prop) : Prop where
 mem : it ∈ fp
 obj : ∀ i h,tn i h -> ∀ b ∈ fp,∃ o,h.get? b = some o /\ ∀ v,o.data ≠ .cell v
 keep : ∀ i h h',tn i h -> (∀ b ∈ fp,∀ o,h.get? b = some o -> h'.get? b = some o) -> tn i h'
 item : ∀ (X : Cx),X.prog = P -> X.w = w -> X.K = K -> X.calm = true -> ∀ (i : Nat) (pins : List (Addr × Obj)) (s : Shared) (σ : St) (H : Hp) (E : Value -> Shared -> Prop),Inv X pins σ H s -> (∀ b ∈ fp,FpOk X pins H b) -> tn i s.heap -> J.go i H ->
   wpAny (model P w) X.A (pyNext (.ref it)) (fun r s1 => ∃ u,r = some u /\
     wpAny (model P w) X.A (letOwnedTupleGo tg (.ref it) u) (fun _ s2 => ∃ x H',Inv X pins σ H' s2 /\ RelV x u /\ J.yld i H x H' /\ tn (i + 1) s2.heap /\ ∀ b ∈ fp,H' b = none) E s1) E s
 done : ∀ (X : Cx),X.prog = P -> X.w = w -> X.K = K -> X.calm = true -> ∀ (i : Nat) (pins : List (Addr × Obj)) (s : Shared) (σ : St) (H : Hp) (E : Value -> Shared -> Prop),Inv X pins σ H s -> (∀ b ∈ fp,FpOk X pins H b) -> tn i s.heap -> J.stop i H ->
   wpAny (model P w) X.A (pyNext (.ref it)) (fun r s1 => r = none /\ Inv X pins σ H s1) E s
 self : ∀ (A : Around) (i : Nat) (s : Shared) (Q : Value -> Shared -> Prop) (E : Value -> Shared -> Prop),tn i s.heap -> Q (.ref it) s -> wpAny (model P w) A (pyIter (.ref it)) Q E s
abbrev TI := St -> Hp -> (It -> Hp -> Prop) -> Prop
def PIE (X : Cx) (pins : List (Addr × Obj)) (σ : St) (tg : Expr) (R : It -> Hp -> Prop) (itv : Value) (s2 : Shared) : Prop :=
 ∃ (it : Addr) (fp : List Addr) (tn : Nat -> Heap -> Prop) (J : It) (H' : Hp),itv = .ref it /\ Inv X pins σ H' s2 /\ Turn X.prog X.w X.K tg J fp it tn /\ tn 0 s2.heap /\ (∀ b ∈ fp,FpOk X pins H' b) /\ R J H'
def PI (X : Cx) (tg iter : Expr) (wi : TI) : Prop :=
 ∀ (pins : List (Addr × Obj)) (s : Shared) (σ : St) (H : Hp) (R : It -> Hp -> Prop),Inv X pins σ H s -> wi σ H R ->
   wpAny (model X.prog X.w) X.A (eval iter X.env) (fun v s1 => wpAny (model X.prog X.w) X.A (pyIter v) (PIE X pins σ tg R) X.xe s1) X.xe s
theorem go_of {M : Model} {A : Around} {E : Value -> Shared -> Prop} {s : Shared} {tg : Expr} {it : Addr} {u : Value} {o : Obj} {n : String} {vs : Array Value} {Q : Unit -> Shared -> Prop} (ho : s.heap.get? it = some o) (hc : o.cls = .type n) (hd : o.data = .fields vs)
   (hn : ["enumerate","zip","dict_itemiterator","dict_reverseitemiterator","odict_iterator","itertools.zip_longest","itertools.pairwise"].contains n = false) (hQ : Q () s) : wpAny M A (letOwnedTupleGo tg (.ref it) u) Q E s := by
 unfold letOwnedTupleGo
 cases tg <;> first
   | exact wpAny_pure hQ
   | (cases u <;> first
       | exact wpAny_pure hQ
       | (refine wpAny_bind (wpAny_load ho ?_)
          rw [hc,hd]
          show wpAny M A (if (["enumerate","zip","dict_itemiterator","dict_reverseitemiterator","odict_iterator","itertools.zip_longest","itertools.pairwise"].contains n && vs[0]? == some (rawInt _)) = true then _ else _) Q E s
          rw [if_neg (by intro h; rw [hn,Bool.false_and] at h; cases h)]
          exact wpAny_pure hQ))
def Itl (K : PySem.W.Frag) (a : Addr) : It :=
 ⟨fun i H => ∃ xs x,SqL K H a xs /\ xs[i]? = some x,fun i H x H' => H' = H /\ ∀ xs,SqL K H a xs -> xs[i]? = some x,fun i H => ∃ xs,SqL K H a xs /\ xs.length <= i⟩
def Itt (K : PySem.W.Frag) (a : Addr) : It :=
 ⟨fun i H => ∃ xs x,SqT K H a xs /\ xs[i]? = some x,fun i H x H' => H' = H /\ ∀ xs,SqT K H a xs -> xs[i]? = some x,fun i H => ∃ xs,SqT K H a xs /\ xs.length <= i⟩
def Itr (lo : Int) (n : Nat) : It := ⟨fun i _ => i < n,fun i H x H' => H' = H /\ x = .int (lo + i),fun i _ => n <= i⟩
theorem turn_list {P : Program} {w : World} {K : PySem.W.Frag} {tg : Expr} (a it : Addr) : Turn P w K tg (Itl K a) [it] it (fun i h => h.IsListIter it a i) where
 mem := by simp
 obj := fun i h st b hb => by
   have e : b = it := by simpa using hb
   subst e
   obtain ⟨o,e,c,d⟩ := st
   exact ⟨o,e,fun v z => by rw [d] at z; cases z⟩
 keep := fun i h h' st k => st.at fun o e => k it (by simp) o e
 item := by
   intro X hP hw hK hc i pins s σ H E I hf st hg
   subst hP hw hK
   obtain ⟨xs,x,hq,hx⟩ := hg
   obtain ⟨its,rv,p,hz⟩ := I.list hq
   obtain ⟨u,hu,ru⟩ := rv.get hx
   obtain ⟨f0,f1,f2,f3,f4,f5⟩ := hf it (by simp)
   refine wpAny_pyNext_list_item st p.isList (x := u) (by simpa using hu) fun h' st' sb => ?_
   have I1 : Inv X pins σ H { s with heap := h' } := I.turned (t' := s.toks) (fun b o hb e => (sb.2 b hb).trans e) f0 f1 f3 f4 f5
   obtain ⟨o,e,c,d⟩ := id st'
   exact ⟨u,rfl,go_of (s := { s with heap := h' }) e c d (by decide) ⟨x,H,I1,ru,⟨rfl,fun ys hy => by rw [I.list_inj hy hq]; exact hx⟩,st',fun b hb => (hf b hb).1⟩⟩
 done := by
   intro X hP hw hK hc i pins s σ H E I hf st hg
   subst hP hw hK
   obtain ⟨xs,hq,hx⟩ := hg
   obtain ⟨its,rv,p,hz⟩ := I.list hq
   obtain ⟨f0,f1,f2,f3,f4,f5⟩ := hf it (by simp)
   have hl := rv.length
   exact wpAny_pyNext_list_end (I.ok.hd hc) st p.isList (by simp; omega) fun h' eb => ⟨rfl,I.turned (t' := s.toks) (fun b o hb e => eb b o hb e) f0 f1 f3 f4 f5⟩
 self := fun _ _ _ _ _ st h => wpAny_pyIter_listiter st h
theorem turn_tuple {P : Program} {w : World} {K : PySem.W.Frag} {tg : Expr} (a it : Addr) : Turn P w K tg (Itt K a) [it] it (fun i h => h.IsTupleIter it a i) where
 mem := by simp
 obj := fun i h st b hb => by
   have e : b = it := by simpa using hb
   subst e
   obtain ⟨o,e,c,d⟩ := st
   exact ⟨o,e,fun v z => by rw [d] at z; cases z⟩
 keep := fun i h h' st k => st.at fun o e => k it (by simp) o e
 item := by
   intro X hP hw hK hc i pins s σ H E I hf st hg
   subst hP hw hK
   obtain ⟨xs,x,hq,hx⟩ := hg
   obtain ⟨its,rv,p,hz⟩ := I.tuple hq
   obtain ⟨u,hu,ru⟩ := rv.get hx
   obtain ⟨f0,f1,f2,f3,f4,f5⟩ := hf it (by simp)
   refine wpAny_pyNext_tuple_item st (show s.heap.IsTuple a its.toArray from p) (x := u) (by simpa using hu) fun h' st' sb => ?_
   have I1 : Inv X pins σ H { s with heap := h' } := I.turned (t' := s.toks) (fun b o hb e => (sb.2 b hb).trans e) f0 f1 f3 f4 f5
   obtain ⟨o,e,c,d⟩ := id st'
   exact ⟨u,rfl,go_of (s := { s with heap := h' }) e c d (by decide) ⟨x,H,I1,ru,⟨rfl,fun ys hy => by rw [I.tuple_inj hy hq]; exact hx⟩,st',fun b hb => (hf b hb).1⟩⟩
 done := by
   intro X hP hw hK hc i pins s σ H E I hf st hg
   subst hP hw hK
   obtain ⟨xs,hq,hx⟩ := hg
   obtain ⟨its,rv,p,hz⟩ := I.tuple hq
   obtain ⟨f0,f1,f2,f3,f4,f5⟩ := hf it (by simp)
   have hl := rv.length
   exact wpAny_pyNext_tuple_end (I.ok.hd hc) st (show s.heap.IsTuple a its.toArray from p) (by simp; omega) fun h' eb => ⟨rfl,I.turned (t' := s.toks) (fun b o hb e => eb b o hb e) f0 f1 f3 f4 f5⟩
 self := fun _ _ _ _ _ st h => wpAny_pyIter_tupleiter st h
theorem turn_range {P : Program} {w : World} {K : PySem.W.Frag} {tg : Expr} (it : Addr) (lo : Int) (n : Nat) : Turn P w K tg (Itr lo n) [it] it (fun i h => IsRangeIter h it (lo + (i : Nat) * 1) ((n : Int) - (i : Nat)) 1) where
 mem := by simp
 obj := fun i h st b hb => by
   have e : b = it := by simpa using hb
   subst e
   exact ⟨_,st,fun v z => by
     have z' : Data.fields _ = Data.cell v := z
     cases z'⟩
 keep := fun i h h' st k => k it (by simp) _ st
 item := by
   intro X hP hw hK hc i pins s σ H E I hf st hg
   subst hP hw hK
   obtain ⟨f0,f1,f2,f3,f4,f5⟩ := hf it (by simp)
   have W := Walks.range (prog := X.prog) (w := X.w) (I.ok.hd hc) it lo 1 n
   refine W.item i s _ _ hg st fun v h' tk hv st' kk => ?_
   obtain ⟨t,rfl⟩ := hv
   have I1 : Inv X pins σ H { s with heap := h',toks := tk } := I.turned (fun b o hb e => kk b o (by simpa using hb) e) f0 f1 f3 f4 f5
   refine ⟨_,rfl,go_of (s := { s with heap := h',toks := tk }) (n := "range_iterator") st' rfl rfl (by decide) ⟨.int (lo + i),H,I1,⟨t,?_⟩,⟨rfl,rfl⟩,st',fun b hb => (hf b hb).1⟩⟩
   rw [Int.mul_one]
 done := by
   intro X hP hw hK hc i pins s σ H E I hf st hg
   subst hP hw hK
   obtain ⟨f0,f1,f2,f3,f4,f5⟩ := hf it (by simp)
   exact wpAny_pyNext_range_end (I.ok.hd hc) st (by have : n <= i := hg; omega) fun h' eb => ⟨rfl,I.turned (t' := s.toks) (fun b o hb e => eb b o hb e) f0 f1 f3 f4 f5⟩
 self := fun _ _ _ _ _ st h => wpAny_pyIter_rangeiter st h
end L2
namespace L2
open PySem PySem.Spec PyProof.Rows
section
variable {X : Cx} {tg : Expr}
def iList (K : PySem.W.Frag) (tl : TE) : TI := fun σ H R => tl σ H fun x H1 => ∃ a,x = .ref a /\ (∃ xs,SqL K H1 a xs) /\ R (Itl K a) H1
def iTup (K : PySem.W.Frag) (tl : TE) : TI := fun σ H R => tl σ H fun x H1 => ∃ a,x = .ref a /\ (∃ xs,SqT K H1 a xs) /\ R (Itt K a) H1
theorem pi_list {l : Expr} {tl : TE} (hl : PE X l tl) : PI X tg l (iList X.K tl) := by
 intro pins s σ H R I h
 refine thn (hl pins s σ H _ I h) fun v s1 ⟨x,H1,I1,r1,q1⟩ => ?_
 obtain ⟨a,e,⟨xs,hq⟩,q⟩ := q1
 subst e
 cases r1
 obtain ⟨its,rv,p,hz⟩ := I1.list hq
 refine wpAny_pyIter_list p.isList ?_
 refine ⟨s1.heap.objs.size,[s1.heap.objs.size],_,_,H1,rfl,I1.kept (t' := s1.toks) fun b o e => Heap.get?_push_of_some _ e,turn_list a _,⟨_,Heap.get?_push_size _ rfl,rfl,rfl⟩,fun b hb => ?_,q⟩
 have e : b = s1.heap.objs.size := by simpa using hb
 subst e
 exact I1.fpOk (Nat.le_refl _) (I1.hok.fresh (Nat.le_refl _))
theorem pi_tup {l : Expr} {tl : TE} (hl : PE X l tl) : PI X tg l (iTup X.K tl) := by
 intro pins s σ H R I h
 refine thn (hl pins s σ H _ I h) fun v s1 ⟨x,H1,I1,r1,q1⟩ => ?_
 obtain ⟨a,e,⟨xs,hq⟩,q⟩ := q1
 subst e
 cases r1
 obtain ⟨its,rv,p,hz⟩ := I1.tuple hq
 refine wpAny_pyIter_tuple (show s1.heap.IsTuple a its.toArray from p) ?_
 refine ⟨s1.heap.objs.size,[s1.heap.objs.size],_,_,H1,rfl,I1.kept (t' := s1.toks) fun b o e => Heap.get?_push_of_some _ e,turn_tuple a _,⟨_,Heap.get?_push_size _ rfl,rfl,rfl⟩,fun b hb => ?_,q⟩
 have e : b = s1.heap.objs.size := by simpa using hb
 subst e
 exact I1.fpOk (Nat.le_refl _) (I1.hok.fresh (Nat.le_refl _))
theorem range_it {pins : List (Addr × Obj)} {σ : St} {H : Hp} {s : Shared} {R : It -> Hp -> Prop} {E : Value -> Shared -> Prop} {lo hi : Int} {t u v : Tok} {tk : Nat} (I : Inv X pins σ H s) (h1 : -(2 ^ 62) <= lo) (h2 : lo < 2 ^ 62) (h3 : -(2 ^ 62) <= hi) (h4 : hi < 2 ^ 62)
   (q : R (Itr lo (hi - lo).toNat) H) : wpAny (model X.prog X.w) X.A (pyIter (.ref s.heap.objs.size)) (PIE X pins σ tg R) E { s with heap := s.heap.push { cls := .type "range",data := .fields #[.int lo t,.int hi u,.int 1 v] },toks := tk } := by
 refine wpAny_pyIter_range (IsRange.new ..) (small_one h1 h2 h3 h4) ?_
 have I1 : Inv X pins σ H { s with heap := s.heap.push { cls := .type "range",data := .fields #[.int lo t,.int hi u,.int 1 v] },toks := tk } := I.kept fun b o e => Heap.get?_push_of_some _ e
 refine ⟨(s.heap.push { cls := .type "range",data := .fields #[.int lo t,.int hi u,.int 1 v] }).objs.size,[(s.heap.push { cls := .type "range",data := .fields #[.int lo t,.int hi u,.int 1 v] }).objs.size],_,_,H,rfl,
   I1.kept (t' := tk) fun b o e => Heap.get?_push_of_some _ e,turn_range _ lo (hi - lo).toNat,?_,fun b hb => ?_,q⟩
 . have e1 : lo + ((0 : Nat) : Int) * 1 = lo := by simp
   have e2 : (((hi - lo).toNat : Nat) : Int) - ((0 : Nat) : Int) = Builtin.Range.rangeSize lo hi 1 := by rw [rangeSize_one]; split <;> omega
   show IsRangeIter _ _ (lo + ((0 : Nat) : Int) * 1) ((((hi - lo).toNat : Nat) : Int) - ((0 : Nat) : Int)) 1
   rw [e1,e2]
   exact Heap.get?_push_size _ rfl
 . have e : b = (s.heap.push { cls := .type "range",data := .fields #[.int lo t,.int hi u,.int 1 v] }).objs.size := by simpa using hb
   subst e
   exact I1.fpOk (Nat.le_refl _) (I1.hok.fresh (Nat.le_refl _))
def iRng1 (ta : TA) : TI := fun σ H R => ta σ H fun vs H1 => ∃ j : Int,vs = [.int j] /\ -(2 ^ 62) <= j /\ j < 2 ^ 62 /\ R (Itr 0 j.toNat) H1
theorem pi_range1 {a : Expr} {ta : TA} {p pos : Pos} (hg : Gl X "range") (hm : X.mg "range" = none) (ha : PA X [a] ta) (hs : starEach [a] X.env = [(false,eval a X.env)] := by rfl) : PI X tg (.Call (.Name "range" p) [a] [] pos) (iRng1 ta) := by
 intro pins s σ H R I h
 refine Call_ (ld_blt I hg hm boot_range (PyProof.Rows.callWith_type1 (thn (ha pos pins s σ H _ I h) fun us s1 ⟨vs,H1,I1,r1,q1⟩ => ?_) hs rfl))
 obtain ⟨j,e,q1,q2,q⟩ := q1
 subst e
 cases r1 with
 | cons r rr =>
   cases rr
   obtain ⟨t,rfl⟩ := r
   exact call_range_1 (range_it I1 (by omega) (by omega) q1 q2 (by simpa using q))
def tFor (wi : TI) (g : TG) (tb : TS) : TS := fun D σ H => wi σ H fun J H1 => ∃ W : Nat -> Nat -> St -> Hp -> Prop,(∃ m,W 0 m σ H1) /\ ∀ i m σ H,W i m σ H ->
 (J.stop i H /\ D.nx σ H) ∨ (J.go i H /\ ∃ N : St -> Hp -> Prop,(∀ σ' H',N σ' H' -> ∃ m',m' < m /\ W (i + 1) m' σ' H') /\ ∀ x H',J.yld i H x H' -> g x σ H' fun σ2 H2 => tb { D with nx := N,ct := N,bk := D.nx } σ2 H2)
def pinsAt (fp : List Addr) (h : Heap) : List (Addr × Obj) := fp.filterMap fun b => (h.get? b).map fun o => (b,o)
theorem mem_pinsAt {fp : List Addr} {h : Heap} {b : Addr} {o : Obj} (hb : b ∈ fp) (e : h.get? b = some o) : (b,o) ∈ pinsAt fp h := List.mem_filterMap.mpr ⟨b,hb,by rw [e]; rfl⟩
theorem of_pinsAt {fp : List Addr} {h : Heap} {p : Addr × Obj} (hp : p ∈ pinsAt fp h) : p.1 ∈ fp /\ h.get? p.1 = some p.2 := by
 obtain ⟨b,hb,e⟩ := List.mem_filterMap.mp hp
 cases q : h.get? b with
 | none => rw [q] at e; cases e
 | some o =>
   rw [q] at e
   have e' : (b,o) = p := Option.some.inj e
   subst e'
   exact ⟨hb,q⟩
theorem Inv.pinned {pins : List (Addr × Obj)} {σ : St} {H : Hp} {s : Shared} {fp : List Addr} (I : Inv X pins σ H s) (hf : ∀ b ∈ fp,FpOk X pins H b) (ho : ∀ b ∈ fp,∃ o,s.heap.get? b = some o /\ ∀ v,o.data ≠ .cell v) : Inv X (pins ++ pinsAt fp s.heap) σ H s :=
 I.pins_of fun p hp => (List.mem_append.mp hp).elim (fun z => I.pin p (List.mem_append_right _ z)) fun z => by
   obtain ⟨hb,e⟩ := of_pinsAt z
   obtain ⟨f0,f1,f2,_⟩ := hf p.1 hb
   obtain ⟨o,e',d⟩ := ho p.1 hb
   rw [e] at e'; cases e'
   exact ⟨e,f0,f1,f2,d⟩
theorem Inv.unpinned {pins pl : List (Addr × Obj)} {σ : St} {H : Hp} {s : Shared} (I : Inv X (pins ++ pl) σ H s) : Inv X pins σ H s := I.pins_of fun p hp => I.pin p (List.mem_append_right _ (List.mem_append_left _ hp))
theorem ps_for {iter : Expr} {body : List Stmt} {wi : TI} {g : TG} {tb : TS} {pos : Pos} (hp : PassesOwn (model X.prog X.w) X.A X.env X.xe) (hc : X.calm = true) (hi : PI X tg iter wi) (hg : PG X tg g) (hb : PSs X body tb)
   (hs : ∀ x,foldedSetIterable iter X.env x = pure x := by intro _; rfl) : PS X (.For tg iter body [] pos) (tFor wi g tb) := by
 intro pins s σ H D I h
 refine wpAny_For (thn (hi pins s σ H _ I h) fun v s1 h1 => thn h1 fun itv s2 h2 => ?_) hs
 obtain ⟨it,fp,tn,J,H2,e,I2,T,st2,f2,W,⟨m0,w0⟩,turn⟩ := h2
 subst e
 -- what stays true of the iterator's objects through the loop
 have stat : ∀ {H' : Hp},(∀ b ∈ fp,H' b = none) -> ∀ b ∈ fp,FpOk X pins H' b := fun hn b hb => ⟨hn b hb,(f2 b hb).2⟩
 refine codeAny_forLoop_any (fun n s' => ∃ i σ' H',Inv X pins σ' H' s' /\ tn i s'.heap /\ (∀ b ∈ fp,H' b = none) /\ W i n σ' H') ?_ m0 ⟨0,σ,H2,I2,st2,fun b hb => (f2 b hb).1,w0⟩
 rintro n s3 ⟨i,σ3,H3,I3,st3,fr3,w3⟩
 rcases turn i n σ3 H3 w3 with ⟨stop,qn⟩ | ⟨go,N,hN,step⟩
 . refine wpAny_passesOwn hp (thn (T.done X rfl rfl rfl hc i pins s3 σ3 H3 X.xe I3 (stat fr3) st3 stop) fun r s4 ⟨hr,I4⟩ => ?_)
   subst hr
   exact wpAny_execs_nil ⟨σ3,H3,I4,qn⟩
 . refine wpAny_passesOwn hp (thn (T.item X rfl rfl rfl hc i pins s3 σ3 H3 X.xe I3 (stat fr3) st3 go) fun r s4 ⟨u,hr,h4⟩ => ?_)
   subst hr
   refine wpAny_passesOwn hp (thn h4 fun _ s5 ⟨x,H5,I5,r5,y5,st5,fr5⟩ => ?_)
   have I5' := I5.pinned (stat fr5) (T.obj _ _ st5)
   refine wpAny_passesOwn hp (thn (hg _ s5 σ3 H5 x u _ I5' r5 (step x H5 y5)) fun _ s6 ⟨σ6,H6,I6,q6⟩ => ?_)
   refine wpAny_passesOwn hp (thn (hb _ s6 σ6 H6 _ I6 q6) fun f s7 q7 => ?_)
   have again : ∀ {σ7 : St} {H7 : Hp},Inv X (pins ++ pinsAt fp s5.heap) σ7 H7 s7 -> N σ7 H7 -> ∃ m,m < n /\ ∃ i σ' H',Inv X pins σ' H' s7 /\ tn i s7.heap /\ (∀ b ∈ fp,H' b = none) /\ W i m σ' H' := fun {σ7 H7} I7 n7 => by
     obtain ⟨m',hm,w7⟩ := hN σ7 H7 n7
     refine ⟨m',hm,i + 1,σ7,H7,I7.unpinned,T.keep _ _ _ st5 fun b hb o e => (I7.pin (b,o) (List.mem_append_right _ (List.mem_append_right _ (mem_pinsAt hb e)))).1,fun b hb => ?_,w7⟩
     obtain ⟨o,e,d⟩ := T.obj _ _ st5 b hb
     exact (I7.pin (b,o) (List.mem_append_right _ (List.mem_append_right _ (mem_pinsAt hb e)))).2.1
   cases f with
   | next => obtain ⟨σ7,H7,I7,n7⟩ := q7; exact again I7 n7
   | cont => obtain ⟨σ7,H7,I7,n7⟩ := q7; exact again I7 n7
   | brk => obtain ⟨σ7,H7,I7,q7⟩ := q7; exact ⟨σ7,H7,I7.unpinned,q7⟩
   | ret v => obtain ⟨x7,σ7,H7,I7,r7,q7⟩ := q7; exact ⟨x7,σ7,H7,I7.unpinned,r7,q7⟩
end
theorem for_list {K : PySem.W.Frag} {a : Addr} {xs : List V} {g : TG} {tb : TS} {D : Ends} {σ : St} {H : Hp} (Pv : Nat -> St -> Hp -> Prop) (h0 : Pv 0 σ H) (hl : ∀ i σ H,i <= xs.length -> Pv i σ H -> SqL K H a xs)
   (hs : ∀ i x σ H,xs[i]? = some x -> Pv i σ H -> g x σ H fun σ2 H2 => tb { D with nx := Pv (i + 1),ct := Pv (i + 1),bk := D.nx } σ2 H2) (hd : ∀ σ H,Pv xs.length σ H -> D.nx σ H) :
   ∃ W : Nat -> Nat -> St -> Hp -> Prop,(∃ m,W 0 m σ H) /\ ∀ i m σ H,W i m σ H ->
     ((Itl K a).stop i H /\ D.nx σ H) ∨ ((Itl K a).go i H /\ ∃ N : St -> Hp -> Prop,(∀ σ' H',N σ' H' -> ∃ m',m' < m /\ W (i + 1) m' σ' H') /\ ∀ x H',(Itl K a).yld i H x H' -> g x σ H' fun σ2 H2 => tb { D with nx := N,ct := N,bk := D.nx } σ2 H2) := by
 refine ⟨fun i m σ H => m = xs.length - i /\ i <= xs.length /\ Pv i σ H,⟨xs.length,by simp,Nat.zero_le _,h0⟩,?_⟩
 rintro i m σ H ⟨rfl,hi,p⟩
 have q := hl i σ H hi p
 by_cases hlt : i < xs.length
 . refine .inr ⟨⟨xs,xs[i],q,by simp [hlt]⟩,Pv (i + 1),fun σ' H' p' => ⟨xs.length - (i + 1),by omega,rfl,hlt,p'⟩,fun x H' y => ?_⟩
   obtain ⟨e,y⟩ := y
   subst e
   exact hs i x σ _ (y xs q) p
 . have e : i = xs.length := by omega
   subst e
   exact .inl ⟨⟨xs,q,Nat.le_refl _⟩,hd σ H p⟩
theorem for_tup {K : PySem.W.Frag} {a : Addr} {xs : List V} {g : TG} {tb : TS} {D : Ends} {σ : St} {H : Hp} (Pv : Nat -> St -> Hp -> Prop) (h0 : Pv 0 σ H) (hl : ∀ i σ H,i <= xs.length -> Pv i σ H -> SqT K H a xs)
   (hs : ∀ i x σ H,xs[i]? = some x -> Pv i σ H -> g x σ H fun σ2 H2 => tb { D with nx := Pv (i + 1),ct := Pv (i + 1),bk := D.nx } σ2 H2) (hd : ∀ σ H,Pv xs.length σ H -> D.nx σ H) :
   ∃ W : Nat -> Nat -> St -> Hp -> Prop,(∃ m,W 0 m σ H) /\ ∀ i m σ H,W i m σ H ->
     ((Itt K a).stop i H /\ D.nx σ H) ∨ ((Itt K a).go i H /\ ∃ N : St -> Hp -> Prop,(∀ σ' H',N σ' H' -> ∃ m',m' < m /\ W (i + 1) m' σ' H') /\ ∀ x H',(Itt K a).yld i H x H' -> g x σ H' fun σ2 H2 => tb { D with nx := N,ct := N,bk := D.nx } σ2 H2) := by
 refine ⟨fun i m σ H => m = xs.length - i /\ i <= xs.length /\ Pv i σ H,⟨xs.length,by simp,Nat.zero_le _,h0⟩,?_⟩
 rintro i m σ H ⟨rfl,hi,p⟩
 have q := hl i σ H hi p
 by_cases hlt : i < xs.length
 . refine .inr ⟨⟨xs,xs[i],q,by simp [hlt]⟩,Pv (i + 1),fun σ' H' p' => ⟨xs.length - (i + 1),by omega,rfl,hlt,p'⟩,fun x H' y => ?_⟩
   obtain ⟨e,y⟩ := y
   subst e
   exact hs i x σ _ (y xs q) p
 . have e : i = xs.length := by omega
   subst e
   exact .inl ⟨⟨xs,q,Nat.le_refl _⟩,hd σ H p⟩
theorem for_range {lo : Int} {n : Nat} {g : TG} {tb : TS} {D : Ends} {σ : St} {H : Hp} (Pv : Nat -> St -> Hp -> Prop) (h0 : Pv 0 σ H)
   (hs : ∀ i σ H,i < n -> Pv i σ H -> g (.int (lo + i)) σ H fun σ2 H2 => tb { D with nx := Pv (i + 1),ct := Pv (i + 1),bk := D.nx } σ2 H2) (hd : ∀ σ H,Pv n σ H -> D.nx σ H) :
   ∃ W : Nat -> Nat -> St -> Hp -> Prop,(∃ m,W 0 m σ H) /\ ∀ i m σ H,W i m σ H ->
     ((Itr lo n).stop i H /\ D.nx σ H) ∨ ((Itr lo n).go i H /\ ∃ N : St -> Hp -> Prop,(∀ σ' H',N σ' H' -> ∃ m',m' < m /\ W (i + 1) m' σ' H') /\ ∀ x H',(Itr lo n).yld i H x H' -> g x σ H' fun σ2 H2 => tb { D with nx := N,ct := N,bk := D.nx } σ2 H2) := by
 refine ⟨fun i m σ H => m = n - i /\ i <= n /\ Pv i σ H,⟨n,by simp,Nat.zero_le _,h0⟩,?_⟩
 rintro i m σ H ⟨rfl,hi,p⟩
 by_cases hlt : i < n
 . refine .inr ⟨hlt,Pv (i + 1),fun σ' H' p' => ⟨n - (i + 1),by omega,rfl,hlt,p'⟩,fun x H' y => ?_⟩
   obtain ⟨e,y⟩ := y
   subst e y
   exact hs i σ _ hlt p
 . have e : i = n := by omega
   subst e
   exact .inl ⟨Nat.le_refl _,hd σ H p⟩
end L2
namespace L2
open PySem PySem.Spec PyProof.Rows
abbrev R2 := V -> V -> Hp -> VK -> Prop
def OpR (X : Cx) (f : Value -> Value -> Sem Value) (r : R2) : Prop :=
 ∀ (pins : List (Addr × Obj)) (s : Shared) (σ : St) (H : Hp) (x y : V) (v u : Value) (Q : VK),Inv X pins σ H s -> RelV x v -> RelV y u -> r x y H Q ->
   wpAny (model X.prog X.w) X.A (f v u) (EP X pins σ Q) X.xe s
def UnR (X : Cx) (f : Value -> Sem Value) (r : V -> Hp -> VK -> Prop) : Prop :=
 ∀ (pins : List (Addr × Obj)) (s : Shared) (σ : St) (H : Hp) (x : V) (v : Value) (Q : VK),Inv X pins σ H s -> RelV x v -> r x H Q ->
   wpAny (model X.prog X.w) X.A (f v) (EP X pins σ Q) X.xe s
def CallR (X : Cx) (f : Value) (r : List V -> Hp -> VK -> Prop) : Prop :=
 ∀ (pins : List (Addr × Obj)) (s : Shared) (σ : St) (H : Hp) (xs : List V) (us : List Value) (Q : VK),Inv X pins σ H s -> Vals xs us -> r xs H Q ->
   wpAny (model X.prog X.w) X.A (call f us) (EP X pins σ Q) X.xe s
def tOp (r : R2) (ta tb : TE) : TE := fun σ H Q => ta σ H fun x H1 => tb σ H1 fun y H2 => r x y H2 Q
def tUn (r : V -> Hp -> VK -> Prop) (ta : TE) : TE := fun σ H Q => ta σ H fun x H1 => r x H1 Q
def rI (C : Int -> Int -> Prop) (g : Int -> Int -> V) : R2 := fun x y H Q => ∃ i j,x = .int i /\ y = .int j /\ C i j /\ Q (g i j) H
def rI0 (g : Int -> Int -> V) : R2 := fun x y H Q => ∃ i j,x = .int i /\ y = .int j /\ Q (g i j) H
section
variable {X : Cx} {a b c : Expr} {ta tb tc : TE} {pos : Pos}
theorem binT (ha : PE X a ta) (hb : PE X b tb) {pins : List (Addr × Obj)} {s : Shared} {σ : St} {H : Hp} {R : V -> V -> Hp -> Prop} (I : Inv X pins σ H s)
   (h : ta σ H fun x H1 => tb σ H1 fun y H2 => R x y H2) {Q : Value -> Shared -> Prop} {f : Value -> Value -> Sem Value}
   (hf : ∀ v u s2 x y H2,Inv X pins σ H2 s2 -> RelV x v -> RelV y u -> R x y H2 -> wpAny (model X.prog X.w) X.A (f v u) Q X.xe s2) :
   wpAny (model X.prog X.w) X.A (eval a X.env) (fun v s₁ => wpAny (model X.prog X.w) X.A (eval b X.env) (fun u s₂ => wpAny (model X.prog X.w) X.A (f v u) Q X.xe s₂) X.xe s₁) X.xe s := by
 refine thn (ha pins s σ H _ I h) fun v s1 ⟨x,H1,I1,r1,q1⟩ => ?_
 refine thn (hb pins s1 σ H1 _ I1 q1) fun u s2 ⟨y,H2,I2,r2,q2⟩ => ?_
 exact hf v u s2 x y H2 I2 r1 r2 q2
theorem pe_op {op : Operator} {r : R2} (ho : OpR X (binaryOp op) r) (ha : PE X a ta) (hb : PE X b tb) : PE X (.BinOp a op b pos) (tOp r ta tb) := by
 intro pins s σ H Q I h
 exact wpAny_BinOp (binT ha hb I h fun v u s2 x y H2 I2 rx ry q => ho pins s2 σ H2 x y v u Q I2 rx ry q)
theorem pe_un {op : UnaryOp} {r : V -> Hp -> VK -> Prop} (ho : UnR X (unaryOp op) r) (ha : PE X a ta) : PE X (.UnaryOp op a pos) (tUn r ta) := by
 intro pins s σ H Q I h
 exact UnaryOp_ (thn (ha pins s σ H _ I h) fun v s1 ⟨x,H1,I1,r1,q1⟩ => ho pins s1 σ H1 x v Q I1 r1 q1)
theorem opI {f : Value -> Value -> Sem Value} {C : Int -> Int -> Prop} {g : Int -> Int -> Int}
   (rule : ∀ (i j : Int) (t u : Tok) (s : Shared) (Q : Value -> Shared -> Prop) (E : Value -> Shared -> Prop),C i j -> Q (.int (g i j) s.toks) { s with toks := s.toks + 1 } -> wpAny (model X.prog X.w) X.A (f (.int i t) (.int j u)) Q E s) :
   OpR X f (rI C fun i j => .int (g i j)) := by
 intro pins s σ H x y v u Q I rx ry h
 obtain ⟨i,j,rfl,rfl,hc,q⟩ := h
 obtain ⟨t,rfl⟩ := rx
 obtain ⟨t',rfl⟩ := ry
 exact rule i j t t' s _ _ hc ⟨.int (g i j),H,I.tok _,⟨_,rfl⟩,q⟩
theorem opI0 {f : Value -> Value -> Sem Value} {g : Int -> Int -> Int}
   (rule : ∀ (i j : Int) (t u : Tok) (s : Shared) (Q : Value -> Shared -> Prop) (E : Value -> Shared -> Prop),Q (.int (g i j) s.toks) { s with toks := s.toks + 1 } -> wpAny (model X.prog X.w) X.A (f (.int i t) (.int j u)) Q E s) :
   OpR X f (rI0 fun i j => .int (g i j)) := by
 intro pins s σ H x y v u Q I rx ry h
 obtain ⟨i,j,rfl,rfl,q⟩ := h
 obtain ⟨t,rfl⟩ := rx
 obtain ⟨t',rfl⟩ := ry
 exact rule i j t t' s _ _ ⟨.int (g i j),H,I.tok _,⟨_,rfl⟩,q⟩
theorem opB0 {f : Value -> Value -> Sem Value} {g : Int -> Int -> Bool}
   (rule : ∀ (i j : Int) (t u : Tok) (s : Shared) (Q : Value -> Shared -> Prop) (E : Value -> Shared -> Prop),Q (.bool (g i j)) s -> wpAny (model X.prog X.w) X.A (f (.int i t) (.int j u)) Q E s) :
   OpR X f (rI0 fun i j => .bl (g i j)) := by
 intro pins s σ H x y v u Q I rx ry h
 obtain ⟨i,j,rfl,rfl,q⟩ := h
 obtain ⟨t,rfl⟩ := rx
 obtain ⟨t',rfl⟩ := ry
 exact rule i j t t' s _ _ ⟨.bl (g i j),H,I,rfl,q⟩
def CDiv (i j : Int) : Prop := 0 < j /\ j < 1073741824
def CPow (i j : Int) : Prop := 0 <= j /\ j <= 1000000 /\ i.natAbs < 2 ^ 64
def CMul (i j : Int) : Prop := (-(2 ^ 64) < i /\ i < 2 ^ 64) ∨ (-(2 ^ 64) < j /\ j < 2 ^ 64)
theorem CMul.ok {i j : Int} (h : CMul i j) : IntMulOk i j := by
 rcases h with ⟨h1,h2⟩ | ⟨h1,h2⟩
 . exact .of_left (intBits_le_64 h1 h2)
 . exact .of_right (intBits_le_64 h1 h2)
theorem op_add : OpR X (binaryOp .Add) (rI0 fun i j => .int (i + j)) := opI0 fun _ _ _ _ _ _ _ q => add_int q
theorem op_sub : OpR X (binaryOp .Sub) (rI0 fun i j => .int (i - j)) := opI0 fun _ _ _ _ _ _ _ q => sub_int q
theorem op_mul : OpR X (binaryOp .Mult) (rI CMul fun i j => .int (i * j)) := opI fun _ _ _ _ _ _ _ hc q => mul_int q hc.ok
theorem op_fdiv : OpR X (binaryOp .FloorDiv) (rI CDiv fun i j => .int (i / j)) := opI fun i j _ _ _ _ _ hc q => by
 have h1 : (0 : Int) < j := hc.1
 have h2 : j < 1073741824 := hc.2
 exact floordiv_int (by omega) (by rw [Int.fdiv_eq_ediv_of_nonneg i (by omega)]; exact q) (.inl (PyProof.noPylong_small (by omega)))
theorem op_mod : OpR X (binaryOp .Mod) (rI (fun _ j => 0 < j) fun i j => .int (i % j)) := opI fun i j _ _ _ _ _ hc q => by
 have h1 : (0 : Int) < j := hc
 exact mod_int' (by omega) (by rw [Int.fmod_eq_emod_of_nonneg i (by omega)]; exact q)
theorem op_pow : OpR X (binaryOp .Pow) (rI CPow fun i j => .int (i ^ j.toNat)) := opI fun _ _ _ _ _ _ _ hc q => pow_int_small hc.1 hc.2.1 hc.2.2 q
end
def scal : V -> V -> Bool
 | .non,.non => true | .non,.int _ => true | .int _,.non => true | .non,.bl _ => true | .bl _,.non => true | .non,.str _ => true | .str _,.non => true
 | .int _,.int _ => true | .bl _,.bl _ => true | .str _,.str _ => true | .byt _,.byt _ => true
 | .int _,.str _ => true | .str _,.int _ => true | .bl _,.str _ => true | .str _,.bl _ => true
 | _,_ => false
def rEq : R2 := fun x y H Q => scal x y = true /\ Q (.bl (decide (x = y))) H
def rNe : R2 := fun x y H Q => scal x y = true /\ Q (.bl (!decide (x = y))) H
theorem dec_int {i j : Int} : decide (V.int i = V.int j) = (i == j) := by
 rw [Bool.eq_iff_iff]
 simp
theorem dec_bl {i j : Bool} : decide (V.bl i = V.bl j) = (i == j) := by
 rw [Bool.eq_iff_iff]
 simp
theorem dec_str {i j : Str} : decide (V.str i = V.str j) = (i == j) := by
 rw [Bool.eq_iff_iff]
 simp
theorem dec_byt {i j : Array UInt8} : decide (V.byt i = V.byt j) = (i.toList == j.toList) := by
 rw [Bool.eq_iff_iff]
 cases i
 cases j
 simp
section
variable {X : Cx} {a b c : Expr} {ta tb tc : TE} {pos : Pos}
theorem fin_bl {pins : List (Addr × Obj)} {σ : St} {H : Hp} {s : Shared} {Q : VK} {k k' : Bool} (I : Inv X pins σ H s) (q : Q (.bl k) H) (e : k = k') : EP X pins σ Q (.bool k') s := by
 subst e
 exact ⟨.bl k,H,I,rfl,q⟩
theorem op_eq : OpR X (compareOp .Eq) rEq := by
 intro pins s σ H x y v u Q I rx ry h
 obtain ⟨hs,q⟩ := h
 cases x with
 | non =>
   cases rx
   cases y with
   | non => cases ry; exact PySem.EqNone.eq_none_none (fin_bl I q (by simp))
   | bl j => cases ry; exact PySem.EqNone.eq_none_bool (fin_bl I q (by simp))
   | int j => obtain ⟨t',rfl⟩ := ry; exact PySem.EqNone.eq_none_int (fin_bl I q (by simp))
   | str j => obtain ⟨t',rfl⟩ := ry; exact PySem.EqNone.eq_none_str (fin_bl I q (by simp))
   | _ => exact absurd (show false = true from hs) Bool.false_ne_true
 | bl i =>
   cases rx
   cases y with
   | non => cases ry; exact PySem.EqNone.eq_bool_none (fin_bl I q (by simp))
   | bl j => cases ry; exact eq_bool (fin_bl I q dec_bl)
   | str j => obtain ⟨t',rfl⟩ := ry; exact PySem.EqMixed.eq_bool_str (fin_bl I q (by simp))
   | _ => exact absurd (show false = true from hs) Bool.false_ne_true
 | int i =>
   obtain ⟨t,rfl⟩ := rx
   cases y with
   | non => cases ry; exact PySem.EqNone.eq_int_none (fin_bl I q (by simp))
   | int j => obtain ⟨t',rfl⟩ := ry; exact eq_int (fin_bl I q dec_int)
   | str j => obtain ⟨t',rfl⟩ := ry; exact PySem.EqMixed.eq_int_str (fin_bl I q (by simp))
   | _ => exact absurd (show false = true from hs) Bool.false_ne_true
 | str i =>
   obtain ⟨t,rfl⟩ := rx
   cases y with
   | non => cases ry; exact PySem.EqNone.eq_str_none (fin_bl I q (by simp))
   | bl j => cases ry; exact PySem.EqMixed.eq_str_bool (fin_bl I q (by simp))
   | int j => obtain ⟨t',rfl⟩ := ry; exact PySem.EqMixed.eq_str_int (fin_bl I q (by simp))
   | str j => obtain ⟨t',rfl⟩ := ry; exact eq_str (fin_bl I q dec_str)
   | _ => exact absurd (show false = true from hs) Bool.false_ne_true
 | byt i =>
   obtain ⟨t,rfl⟩ := rx
   cases y with
   | byt j => obtain ⟨t',rfl⟩ := ry; exact PySem.W.eq_bytes (fin_bl I q dec_byt)
   | _ => exact absurd (show false = true from hs) Bool.false_ne_true
 | _ => cases y <;> exact absurd (show false = true from hs) Bool.false_ne_true
theorem op_ne : OpR X (compareOp .NotEq) rNe := by
 intro pins s σ H x y v u Q I rx ry h
 obtain ⟨hs,q⟩ := h
 cases x with
 | non =>
   cases rx
   cases y with
   | non => cases ry; exact PySem.EqNone.ne_none_none (fin_bl I q (by simp))
   | bl j => cases ry; exact PySem.EqNone.ne_none_bool (fin_bl I q (by simp))
   | int j => obtain ⟨t',rfl⟩ := ry; exact PySem.EqNone.ne_none_int (fin_bl I q (by simp))
   | str j => obtain ⟨t',rfl⟩ := ry; exact PySem.EqNone.ne_none_str (fin_bl I q (by simp))
   | _ => exact absurd (show false = true from hs) Bool.false_ne_true
 | bl i =>
   cases rx
   cases y with
   | non => cases ry; exact PySem.EqNone.ne_bool_none (fin_bl I q (by simp))
   | bl j => cases ry; exact ne_bool (fin_bl I q (congrArg not dec_bl))
   | str j => obtain ⟨t',rfl⟩ := ry; exact PySem.EqMixed.ne_bool_str (fin_bl I q (by simp))
   | _ => exact absurd (show false = true from hs) Bool.false_ne_true
 | int i =>
   obtain ⟨t,rfl⟩ := rx
   cases y with
   | non => cases ry; exact PySem.EqNone.ne_int_none (fin_bl I q (by simp))
   | int j => obtain ⟨t',rfl⟩ := ry; exact ne_int (fin_bl I q (congrArg not dec_int))
   | str j => obtain ⟨t',rfl⟩ := ry; exact PySem.EqMixed.ne_int_str (fin_bl I q (by simp))
   | _ => exact absurd (show false = true from hs) Bool.false_ne_true
 | str i =>
   obtain ⟨t,rfl⟩ := rx
   cases y with
   | non => cases ry; exact PySem.EqNone.ne_str_none (fin_bl I q (by simp))
   | bl j => cases ry; exact PySem.EqMixed.ne_str_bool (fin_bl I q (by simp))
   | int j => obtain ⟨t',rfl⟩ := ry; exact PySem.EqMixed.ne_str_int (fin_bl I q (by simp))
   | str j => obtain ⟨t',rfl⟩ := ry; exact ne_str (fin_bl I q (congrArg not dec_str))
   | _ => exact absurd (show false = true from hs) Bool.false_ne_true
 | byt i =>
   obtain ⟨t,rfl⟩ := rx
   cases y with
   | byt j => obtain ⟨t',rfl⟩ := ry; exact PySem.W.ne_bytes (fin_bl I q (congrArg not dec_byt))
   | _ => exact absurd (show false = true from hs) Bool.false_ne_true
 | _ => cases y <;> exact absurd (show false = true from hs) Bool.false_ne_true
theorem op_lt : OpR X (compareOp .Lt) (rI0 fun i j => .bl (decide (i < j))) := opB0 fun _ _ _ _ _ _ _ q => lt_int q
theorem op_le : OpR X (compareOp .LtE) (rI0 fun i j => .bl (decide (i <= j))) := opB0 fun _ _ _ _ _ _ _ q => le_int q
theorem op_gt : OpR X (compareOp .Gt) (rI0 fun i j => .bl (decide (j < i))) := opB0 fun _ _ _ _ _ _ _ q => gt_int q
theorem op_ge : OpR X (compareOp .GtE) (rI0 fun i j => .bl (decide (j <= i))) := opB0 fun _ _ _ _ _ _ _ q => ge_int q
theorem nomark (b : Expr) {op : CmpOp} (h : op ≠ .In := by decide) (h2 : op ≠ .NotIn := by decide) : behindInMarks op b = false := by
 have e1 : (op == CmpOp.In) = false := by cases op <;> first | rfl | exact absurd rfl h
 have e2 : (op == CmpOp.NotIn) = false := by cases op <;> first | rfl | exact absurd rfl h2
 cases b <;> simp [behindInMarks,e1,e2]
theorem pe_cmpR {op : CmpOp} {r : R2} (ho : OpR X (compareOp op) r) (ha : PE X a ta) (hb : PE X b tb) (hm : behindInMarks op b = false) : PE X (.Compare a [op] [b] pos) (tOp r ta tb) := by
 intro pins s σ H Q I h
 exact wpAny_Compare1 (binT ha hb I h fun v u s2 x y H2 I2 rx ry q => ho pins s2 σ H2 x y v u Q I2 rx ry q) hm
def tChain (r r' : R2) (ta tb tc : TE) : TE := fun σ H Q => ta σ H fun x H1 => tb σ H1 fun y H2 => r x y H2 fun z H3 => ∃ k,z = .bl k /\
 (if k = true then tc σ H3 fun w' H4 => r' y w' H4 Q else Q (.bl false) H3)
theorem pe_chain {op op' : CmpOp} {r r' : R2} (ho : OpR X (compareOp op) r) (ho' : OpR X (compareOp op') r') (ha : PE X a ta) (hb : PE X b tb) (hc : PE X c tc)
   (hm : lastMarks [op,op'] [b,c] = false := by with_unfolding_all rfl) : PE X (.Compare a [op,op'] [b,c] pos) (tChain r r' ta tb tc) := by
 intro pins s σ H Q I h
 refine Compare_chain (thn (ha pins s σ H _ I h) fun v s1 ⟨x,H1,I1,r1,q1⟩ => chain_link (thn (hb pins s1 σ H1 _ I1 q1) fun u s2 ⟨y,H2,I2,r2,q2⟩ =>
   thn (ho pins s2 σ H2 x y v u _ I2 r1 r2 q2) fun d s3 ⟨z,H3,I3,r3,k,e,q3⟩ => ?_)) hm
 subst e
 cases r3
 refine wpAny_truthy_bool ?_
 cases k with
 | false => exact ite_ff ⟨.bl false,H3,I3,rfl,q3⟩
 | true => exact ite_tt (chain_last (thn (hc pins s3 σ H3 _ I3 q3) fun w' s4 ⟨z',H4,I4,r4,q4⟩ => ho' pins s4 σ H4 y z' u w' Q I4 r2 r4 q4))
theorem line63 : (sizeLine : Nat) < 2 ^ 63 := by rw [sizeLine_eq]; decide
theorem op_add_str : OpR X (binaryOp .Add) (fun x y H Q => ∃ i j,x = .str i /\ y = .str j /\ i.length + j.length <= sizeLine /\ Q (.str (i ++ j)) H) := by
 intro pins s σ H x y v u Q I rx ry h
 obtain ⟨i,j,rfl,rfl,hz,q⟩ := h
 obtain ⟨t,rfl⟩ := rx
 obtain ⟨t',rfl⟩ := ry
 exact add_str (fun t' tk => ⟨.str (i ++ j),H,I.tok _,⟨_,rfl⟩,q⟩) hz
theorem vals1 {x : V} {us : List Value} (r : Vals [x] us) : ∃ u,us = [u] /\ RelV x u := by
 cases r with
 | cons r1 r2 => cases r2; exact ⟨_,rfl,r1⟩
theorem vals2 {x y : V} {us : List Value} (r : Vals [x,y] us) : ∃ u w',us = [u,w'] /\ RelV x u /\ RelV y w' := by
 cases r with
 | cons r1 r2 =>
   cases r2 with
   | cons r3 r4 => cases r4; exact ⟨_,_,rfl,r1,r3⟩
theorem call_abs : CallR X (.builtin "abs") (fun xs H Q => ∃ i,xs = [.int i] /\ Q (.int (if i < 0 then -i else i)) H) := by
 intro pins s σ H xs us Q I r h
 obtain ⟨i,rfl,q⟩ := h
 obtain ⟨u,rfl,t,rfl⟩ := vals1 r
 exact call_abs_int fun u tk => ⟨.int (if i < 0 then -i else i),H,I.tok _,⟨_,rfl⟩,q⟩
theorem call_max2 (hc : X.calm = true) : CallR X (.builtin "max") (fun xs H Q => ∃ i j,xs = [.int i,.int j] /\ Q (.int (if j > i then j else i)) H) := by
 intro pins s σ H xs us Q I r h
 obtain ⟨i,j,rfl,q⟩ := h
 obtain ⟨u,w',rfl,⟨t,rfl⟩,⟨t',rfl⟩⟩ := vals2 r
 refine max_two_ints (I.ok.hd hc) fun h' tk k => ⟨_,H,I.kept k,?_,q⟩
 by_cases hj : j > i
 . rw [if_pos hj,if_pos hj]; exact ⟨_,rfl⟩
 . rw [if_neg hj,if_neg hj]; exact ⟨_,rfl⟩
theorem call_min2 (hc : X.calm = true) : CallR X (.builtin "min") (fun xs H Q => ∃ i j,xs = [.int i,.int j] /\ Q (.int (if j < i then j else i)) H) := by
 intro pins s σ H xs us Q I r h
 obtain ⟨i,j,rfl,q⟩ := h
 obtain ⟨u,w',rfl,⟨t,rfl⟩,⟨t',rfl⟩⟩ := vals2 r
 refine min_two_ints (I.ok.hd hc) fun h' tk k => ⟨_,H,I.kept k,?_,q⟩
 by_cases hj : j < i
 . rw [if_pos hj,if_pos hj]; exact ⟨_,rfl⟩
 . rw [if_neg hj,if_neg hj]; exact ⟨_,rfl⟩
theorem call_divmod : CallR X (.builtin "divmod") (fun xs H Q => ∃ i j,xs = [.int i,.int j] /\ CDiv i j /\ ∀ p,H p = none -> Q (.ref p) (upd H p (.tup [.int (i / j),.int (i % j)]))) := by
 intro pins s σ H xs us Q I r h
 obtain ⟨i,j,rfl,⟨h1,h2⟩,q⟩ := h
 obtain ⟨u,w',rfl,⟨t,rfl⟩,⟨t',rfl⟩⟩ := vals2 r
 refine divmod_int (by omega) ?_ (.inl (PyProof.noPylong_small (by omega)))
 rw [Int.fdiv_eq_ediv_of_nonneg i (by omega),Int.fmod_eq_emod_of_nonneg i (by omega)]
 have hn : H s.heap.objs.size = none := I.hok.fresh (Nat.le_refl _)
 refine ⟨.ref s.heap.objs.size,_,?_,rfl,q _ hn⟩
 refine I.laid (fun b o e => Heap.get?_push_of_some _ e) (Nat.le_refl _) ⟨by simp only [List.length_cons,List.length_nil]; rw [sizeLine_eq]; decide,[.int (i / j) s.toks,.int (i % j) (s.toks + 1)],.cons ⟨_,rfl⟩ (.cons ⟨_,rfl⟩ .nil),?_⟩
 exact ⟨_,Heap.get?_push_size s.heap rfl,rfl,0,rfl⟩
end
end L2
namespace L2
open PySem PySem.Spec PyProof.Rows
structure ObjM (h : Heap) (x dx C : Addr) (mA : Str -> Option Value) : Prop where
 obj : h.get? x = some (PySem.W.instObj C dx)
 ns : h.Ns1 dx mA
 ne : dx ≠ x
theorem lookIn_ns {h : Heap} {dx : Addr} {mA : Str -> Option Value} (n : h.Ns1 dx mA) : ∃ od,h.get? dx = some od /\ ∀ name,PySem.W.lookIn name od = some (mA name) := by
 obtain ⟨o,es,ep,ho,hd,hk,_,hm⟩ := n
 refine ⟨o,ho,fun name => ?_⟩
 have e := hm name
 unfold nsFind findBy at e
 rw [<- Array.find?_toList] at e
 unfold PySem.W.lookIn
 rw [hd]
 dsimp only
 split
 . rename_i y q
   rw [q] at e
   exact congrArg some e
 . rename_i q
   rw [q] at e
   have a : es.toList.any (·.refKey) = false := by
     rw [List.any_eq_false]
     intro y hy
     obtain ⟨z,t,hkey⟩ := hk y (Array.mem_toList_iff.mp hy)
     simp [DictEntry.refKey,hkey]
   have a' : ¬ es.toList.any (·.refKey) = true := by rw [a]; exact Bool.false_ne_true
   rw [if_neg a']
   exact congrArg some e
theorem ObjM.look {h : Heap} {x dx C : Addr} {mA : Str -> Option Value} (I : ObjM h x dx C mA) : ∃ od,PySem.W.InstAt h x (PySem.W.instObj C dx) C (some od) /\ ∀ name,PySem.W.lookIn name od = some (mA name) :=
 let ⟨od,ho,hl⟩ := lookIn_ns I.ns
 ⟨od,⟨I.obj,rfl,rfl,ho⟩,hl⟩
section
variable {prog : Program} {w : World} {A : Around} {E : Value -> Shared -> Prop} {s : Shared} {K : PySem.W.Frag} {x dx C f : Addr} {mA : Str -> Option Value} {name : Str} {v : Value}
end
theorem RelO.some_of {v : V} {o : Option Value} (r : RelO (some v) o) : ∃ u,o = some u /\ RelV v u := by
 cases o with
 | none => exact (show False from r).elim
 | some u => exact ⟨u,rfl,r⟩
section
variable {P : Program} {w : World} {H H' : Hp} {h h' : Heap} {a C dx : Addr} {fs fs' : List (Str × V)}
theorem ins_get (hok : HOk P w H h) (e : H a = some (.ins C dx fs)) : ∃ mA,ObjM h a dx C mA /\ (∀ f,RelO (fs.lookup f) (mA f)) /\ PySem.Within mA (fs.map (·.1)) /\ fs.length <= 1000 /\ H dx = some (.own a) := by
 obtain ⟨d,z,ne,ob,mA,n,r,q⟩ := (show ObjOk P w H h a (.ins C dx fs) from hok a _ e)
 exact ⟨mA,⟨ob,n,ne⟩,r,q,z,d⟩
end
structure Cls (K : PySem.W.Frag) (C : Addr) : Prop where
 pg : PySem.W.plainGet K C Str.empty = true
 hd : PySem.W.hasDictIn K C = true
 po : PySem.W.plainOver K C = true
 sa : PySem.W.findIn K (.ref C) "__setattr__" = some (some (.builtin "object.__setattr__"))
theorem Cls.get {K : PySem.W.Frag} {C : Addr} (c : Cls K C) (f : Str) : PySem.W.plainGet K C f = true := c.pg
section
variable {X : Cx} {pins : List (Addr × Obj)} {σ : St} {H : Hp} {s : Shared} {a C dx : Addr} {fs : List (Str × V)} {f : Str} {v : V} {A : Around} {E : Value -> Shared -> Prop}
end
section
variable {X : Cx} {o e value : Expr} {f : Str} {pos pos' tpos : Pos} {ta tv : TE}
end
section
variable {X : Cx} {pins : List (Addr × Obj)} {σ : St} {H : Hp} {s : Shared} {A : Around} {E : Value -> Shared -> Prop} {Q : Value -> Shared -> Prop} {c : Value} {b : Bool}
inductive TyOf (K : PySem.W.Frag) (H : Hp) : V -> Value -> Prop where
 | non : TyOf K H .non (.type "NoneType")
 | bl (x : Bool) : TyOf K H (.bl x) (.type "bool")
 | int (i : Int) : TyOf K H (.int i) (.type "int")
 | str (x : Str) : TyOf K H (.str x) (.type "str")
 | flt (x : UInt64) : TyOf K H (.flt x) (.type "float")
 | lst {a : Addr} {xs : List V} (e : H a = some (.lst xs)) : TyOf K H (.ref a) (.type "list")
 | frz {a : Addr} {o : Obj} {xs : List V} (e : H a = some (.frz o (.lst xs))) : TyOf K H (.ref a) (.type "list")
 | tup {a : Addr} {xs : List V} (e : H a = some (.tup xs)) : TyOf K H (.ref a) (.type "tuple")
 | dK {a : Addr} {kvs : List (Key × V)} (e : H a = some (.dK kvs)) : TyOf K H (.ref a) (.type "dict")
 | dT {a : Addr} {kvs : List (List Key × V)} (e : H a = some (.dT kvs)) : TyOf K H (.ref a) (.type "dict")
 | ins {a C dx : Addr} {fs : List (Str × V)} (e : H a = some (.ins C dx fs)) (cl : Cls K C) (ha : PySem.W.findIn K (.ref C) "__class__" = some (some (.builtin "object.__class__")))
     (hn : PySem.W.specialIn K (.builtin "object.__class__") "__get__" = some (some (.builtin "getset_descriptor.__get__"))) (htk : PySem.W.takesIn K (.builtin "object.__class__") = some true)
     (hm : PySem.W.mroIn K C (.type "object") = some true) : TyOf K H (.ref a) (.ref C)
theorem isinst_ok {x : V} {u t : Value} (I : Inv X pins σ H s) (rx : RelV x u) (ty : TyOf X.K H x t) (e : PySem.W.kitOne X.K t c = some b) (h : ∀ tk,Q (.bool b) { s with toks := tk }) :
   wpAny (model X.prog X.w) A (call (.builtin "isinstance") [u,c]) Q E s := by
 cases ty with
 | non => cases (show u = Value.none from rx); exact PySem.W.kia_one PySem.W.kitx_none I.kIn True.intro e (fun z => nomatch z) h
 | bl y => cases (show u = Value.bool y from rx); exact PySem.W.kia_one PySem.W.kitx_bool I.kIn True.intro e (fun z => nomatch z) h
 | int i => obtain ⟨t,q⟩ := (show ∃ t,u = Value.int i t from rx); cases q; exact PySem.W.kia_one PySem.W.kitx_int I.kIn True.intro e (fun z => nomatch z) h
 | str y => obtain ⟨t,q⟩ := (show ∃ t,u = Value.str y t from rx); cases q; exact PySem.W.kia_one PySem.W.kitx_str I.kIn True.intro e (fun z => nomatch z) h
 | flt y => obtain ⟨t,q⟩ := (show ∃ t,u = Value.float y t from rx); cases q; exact PySem.W.kia_one PySem.W.kitx_float I.kIn True.intro e (fun z => nomatch z) h
 | @lst a xs ea =>
   cases (show u = Value.ref a from rx)
   obtain ⟨_,_,n,_,h1⟩ := (show ObjOk X.prog X.w H s.heap a (.lst xs) from I.hok a _ ea)
   exact PySem.W.kia_one PySem.W.kitx_list I.kIn ⟨_,h1,rfl⟩ e (fun z => nomatch z) h
 | @frz a ob xs ea =>
   cases (show u = Value.ref a from rx)
   obtain ⟨_,_,_,n,_,h1⟩ := (show ObjOk X.prog X.w H s.heap a (.frz ob (.lst xs)) from I.hok a _ ea)
   exact PySem.W.kia_one PySem.W.kitx_list I.kIn ⟨_,h1,rfl⟩ e (fun z => nomatch z) h
 | @tup a xs ea =>
   cases (show u = Value.ref a from rx)
   obtain ⟨_,_,_,p⟩ := (show ObjOk X.prog X.w H s.heap a (.tup xs) from I.hok a _ ea)
   obtain ⟨o,h1,h2,_⟩ := p
   exact PySem.W.kia_one PySem.W.kitx_tuple I.kIn ⟨o,h1,h2⟩ e (fun z => nomatch z) h
 | @dK a kvs ea =>
   cases (show u = Value.ref a from rx)
   obtain ⟨_,_,vs,_,p⟩ := (show ObjOk X.prog X.w H s.heap a (.dK kvs) from I.hok a _ ea)
   obtain ⟨o,es,ep,h1,h2,_⟩ := p
   exact PySem.W.kia_one PySem.W.kitx_dict I.kIn ⟨o,h1,h2.1⟩ e (fun z => nomatch z) h
 | @dT a kvs ea =>
   cases (show u = Value.ref a from rx)
   obtain ⟨_,_,xs,_,o,es,ep,h1,h2,_⟩ := (show ObjOk X.prog X.w H s.heap a (.dT kvs) from I.hok a _ ea)
   exact PySem.W.kia_one PySem.W.kitx_dict I.kIn ⟨o,h1,h2.1⟩ e (fun z => nomatch z) h
 | @ins a C dx fs ea cl ha hn htk hm =>
   cases (show u = Value.ref a from rx)
   obtain ⟨mA,O,_⟩ := ins_get I.hok ea
   obtain ⟨od,J,_⟩ := O.look
   exact PySem.W.kia_one (PySem.W.kitx_own (cl.get _) cl.hd ha hn htk hm) I.kIn J e (fun z => nomatch z) h
end
end L2
namespace L2
open PySem PySem.Spec PyProof.Rows
structure Room (k : Nat) (A : Around) : Prop where
 hd : A.handled = none
 dp : A.depth + 3 * k + 5 < recursionLimit
 un : A.units + 16 * k + 200 < cLine
theorem Room.mono {j k : Nat} {A : Around} (r : Room k A) (h : j <= k) : Room j A := ⟨r.hd,by have := r.dp; omega,by have := r.un; omega⟩
theorem Room.deeper {k : Nat} {A : Around} (r : Room (k + 1) A) (env : Env) : Room k (A.deeper env) :=
 ⟨r.hd,by have := r.dp; show A.depth + 1 + 3 * k + 5 < _; omega,by have := r.un; show A.units + 3 + 16 * k + 200 < _; omega⟩
theorem Room.depth {k : Nat} {A : Around} (r : Room k A) : A.depth < recursionLimit := by have := r.dp; omega
theorem Room.units {k : Nat} {A : Around} (r : Room k A) : A.units + 64 < cLine := by have := r.un; omega
theorem Room.units0 {k : Nat} {A : Around} (r : Room k A) : A.units < cLine := by have := r.un; omega
def tNil : TA := fun _ H Q => Q [] H
def tCons (ta : TE) (tr : TA) : TA := fun σ H Q => ta σ H fun x H1 => tr σ H1 fun xs H2 => Q (x :: xs) H2
section
variable {X : Cx} {e : Expr} {es : List Expr} {te : TE} {t : TA} {pos : Pos}
theorem pa_nil : PA X [] tNil := fun _ _ _ _ H Q I h => Calls.spliced_nil ⟨[],H,I,.nil,h⟩
theorem pa_cons (ha : PE X e te) (hr : PA X es t) (hs : starEach (e :: es) X.env = (false,eval e X.env) :: starEach es X.env := by rfl) : PA X (e :: es) (tCons te t) := by
 intro pos pins s σ H Q I h
 rw [hs]
 show wpAny _ _ (spliced ((false,eval e X.env) :: backTo pos (starEach es X.env))) _ _ s
 refine Calls.spliced_cons (thn (ha pins s σ H _ I h) fun u s1 ⟨x,H1,I1,r1,q1⟩ => ?_)
 exact thn (hr pos pins s1 σ H1 _ I1 q1) fun us s2 ⟨xs,H2,I2,r2,q2⟩ => ⟨x :: xs,H2,I2,.cons r1 r2,q2⟩
def tTup (t : TA) : TE := fun σ H Q => t σ H fun xs H1 => xs.length <= sizeLine /\ ∀ p,H1 p = none -> Q (.ref p) (upd H1 p (.tup xs))
def tLst (t : TA) : TE := fun σ H Q => t σ H fun xs H1 => xs.length <= sizeLine /\ ∀ p,H1 p = none -> Q (.ref p) (upd H1 p (.lst xs))
theorem pe_tup {x1} (h : PA X es t) : PE X (.Tuple es x1 pos) (tTup t) := by
 intro pins s σ H Q I hq
 refine wpAny_Tuple_spliced (thn (h pos pins s σ H _ I hq) fun us s1 ⟨xs,H1,I1,r,z,q⟩ => ⟨by rw [<- r.length]; exact z,?_⟩)
 have hf : H1 s1.heap.objs.size = none := I1.hok.fresh (Nat.le_refl _)
 refine ⟨.ref s1.heap.objs.size,upd H1 s1.heap.objs.size (.tup xs),I1.laid (t' := s1.toks) (fun b u e => Heap.get?_push_of_some _ e) (Nat.le_refl _) ?_,rfl,q _ hf⟩
 exact ⟨z,us,r,⟨_,Heap.get?_push_size _ rfl,rfl,_,rfl⟩⟩
theorem pe_lst (h : PA X es t) : PE X (.List es pos) (tLst t) := by
 intro pins s σ H Q I hq
 refine wpAny_List_spliced (thn (h pos pins s σ H _ I hq) fun us s1 ⟨xs,H1,I1,r,z,q⟩ => ⟨by rw [<- r.length]; exact z,?_⟩)
 have hf : H1 s1.heap.objs.size = none := I1.hok.fresh (Nat.le_refl _)
 refine ⟨.ref s1.heap.objs.size,upd H1 s1.heap.objs.size (.lst xs),I1.laid (t' := s1.toks) (fun b u e => Heap.get?_push_of_some _ e) (Nat.le_refl _) ?_,rfl,q _ hf⟩
 exact ⟨z,us,0,r,Heap.get?_push_size _ rfl⟩
end
abbrev Sp := List V -> Hp -> VK -> XK -> Prop
abbrev CXT := List Env -> Hp -> Shared -> XK -> Value -> Shared -> Prop
structure Env0 (P : Program) (w : World) (K : PySem.W.Frag) (mg : Str -> Option Value) (base : Heap) (A : Around) (outer : List Env) (s : Shared) (H : Hp) : Prop where
 frames : A.frames = some outer
 mod : Mod K mg base
 bs : ∀ b o,base.get? b = some o -> s.heap.get? b = some o /\ H b = none
 bsz : base.objs.size <= s.heap.objs.size
 funs : s.heap.FunFrames base outer
 frf : ∀ b ∈ frs outer,H b = none
 hok : HOk P w H s.heap
 bare : AllBare s.gens
def CE (outer : List Env) (P : Program) (w : World) (H : Hp) (s : Shared) (Q : VK) (u : Value) (s' : Shared) : Prop :=
 ∃ v H',s'.os = s.os /\ AllBare s'.gens /\ Un (frs outer) [] H H' s.heap s'.heap /\ HOk P w H' s'.heap /\ RelV v u /\ Q v H'
def CR (CX : CXT) (outer : List Env) (P : Program) (w : World) (H : Hp) (s : Shared) (Q : VK) (E : XK) (r : Result) (s' : Shared) : Prop :=
 match r with
 | .ok (.ret u) => CE outer P w H s Q u s'
 | .ok _ => False
 | .error e => CX outer H s E e s'
structure FnOk (P : Program) (w : World) (K : PySem.W.Frag) (mg : Str -> Option Value) (base : Heap) (CX : CXT) (k : Nat) (f : Addr) (fd : FuncData) (ps : List Str) (sp : Sp) : Prop where
 len : ∀ vs H Q E,sp vs H Q E -> vs.length = ps.length
 run : ∀ (A : Around) (outer : List Env) (s : Shared) (H : Hp) (args : Args) (us : List Value) (vs : List V) (Q : VK) (E : XK),Room k A -> Env0 P w K mg base A outer s H -> BindsTo s fd args (ps.zip us) -> Vals vs us -> sp vs H Q E ->
   codeAny (model P w) A (.call (.ref f) args) (CR CX outer P w H s Q E) s
theorem FnOk.mono {P : Program} {w : World} {K : PySem.W.Frag} {mg : Str -> Option Value} {base : Heap} {CX : CXT} {j k : Nat} {f : Addr} {fd : FuncData} {ps : List Str} {sp : Sp} (F : FnOk P w K mg base CX j f fd ps sp) (h : j <= k) :
   FnOk P w K mg base CX k f fd ps sp := ⟨F.len,fun A outer s H args us vs Q E hr => F.run A outer s H args us vs Q E (hr.mono h)⟩
section
variable {X : Cx} {pins : List (Addr × Obj)} {σ : St} {H : Hp} {s s' : Shared}
theorem Inv.env0 (I : Inv X pins σ H s) : Env0 X.prog X.w X.K X.mg X.base X.A X.stack s H :=
 ⟨I.ok.frames,I.ok.mod,I.bs,Nat.le_trans I.ok.bsz I.sz,I.stack,I.stkFree,I.hok,I.bare⟩
theorem Inv.after {Q : VK} {u : Value} (I : Inv X pins σ H s) (h : CE X.stack X.prog X.w H s Q u s') : EP X pins σ Q u s' := by
 obtain ⟨v,H',os,bare,un,hok,r,q⟩ := h
 obtain ⟨hh,g,d,t,os'⟩ := s'
 obtain rfl : os' = s.os := os
 exact ⟨v,H',I.call (h' := hh) (g' := g) (d' := d) (t' := t) (ch := []) un hok bare (fun b z => absurd z (by simp)),r,q⟩
end
def tCall (sp : Sp) (dvs : List V) (E : XK) (t : TA) : TE := fun σ H Q => t σ H fun vs H1 => sp (vs ++ dvs) H1 Q E
def Binds (K : PySem.W.Frag) (fd : FuncData) (ps : List Str) (ds : List Value) : Prop :=
 ∀ (s : Shared) (us : List Value),K.In s.heap -> (us ++ ds).length = ps.length -> BindsTo s fd ⟨us,[]⟩ (ps.zip (us ++ ds))
theorem Binds.all {K : PySem.W.Frag} {fd : FuncData} {ps : List Str} (h : ∀ us : List Value,us.length = ps.length -> bindArgs fd ⟨us,[]⟩ = pure (ps.zip us)) : Binds K fd ps [] := fun s us _ hl => by
 rw [List.append_nil] at hl ⊢
 exact .of_eq (h us hl)
def Passes (CX : CXT) (X : Cx) (E : XK) : Prop := ∀ (pins : List (Addr × Obj)) (σ : St) (H : Hp) (s : Shared) (e : Value) (s' : Shared),Inv X pins σ H s -> CX X.stack H s E e s' -> X.xe e s'
section
variable {X : Cx} {CX : CXT} {k : Nat} {f C : Addr} {fd : FuncData} {ps : List Str} {sp : Sp} {dvs : List V} {ds : List Value} {E : XK} {x m : Str} {p pos apos : Pos} {e o : Expr} {es : List Expr} {ta : TE} {t : TA}
theorem run_fn {pins : List (Addr × Obj)} {σ : St} {H : Hp} {s : Shared} {Q : VK} {us : List Value} {vs : List V} (F : FnOk X.prog X.w X.K X.mg X.base CX k f fd ps sp) (hr : Room k X.A) (hb : Binds X.K fd ps ds) (hd : Vals dvs ds) (hx : Passes CX X E)
   (I : Inv X pins σ H s) (r : Vals vs us) (h : sp (vs ++ dvs) H Q E) : wpAny (model X.prog X.w) X.A (call (.ref f) us) (EP X pins σ Q) X.xe s := by
 have r2 : Vals (vs ++ dvs) (us ++ ds) := r.append hd
 have hl : (us ++ ds).length = ps.length := by rw [<- r2.length]; exact F.len _ _ _ _ h
 refine wpAny_call (codeAny_mono (F.run X.A X.stack s H ⟨us,[]⟩ (us ++ ds) (vs ++ dvs) Q E hr I.env0 (hb s us I.kIn hl) r2 h) fun r s' hq => ?_)
 cases r with
 | error e => exact hx pins σ H s e s' I hq
 | ok fl =>
   cases fl with
   | ret u => exact I.after hq
   | next => exact False.elim hq
   | brk => exact False.elim hq
   | cont => exact False.elim hq
theorem pe_call (F : FnOk X.prog X.w X.K X.mg X.base CX k f fd ps sp) (hr : Room k X.A) (hg : Gl X x) (hm : X.mg x = some (.ref f)) (hk : PySem.W.keepIn X.K (.ref f) = true) (hb : Binds X.K fd ps ds) (hd : Vals dvs ds) (hx : Passes CX X E)
   (ha : PA X (e :: es) t) (hdb : (x == ("__debug__" : Str)) = false := by decide) (he : starEach (e :: es) X.env = (false,eval e X.env) :: starEach es X.env := by rfl) (hpl : (backTo pos (starEach es X.env)).any (·.1) = false := by rfl) :
   PE X (.Call (.Name x p) (e :: es) [] pos) (tCall sp dvs E t) := by
 intro pins s σ H Q I h
 refine wpAny_Call_Name_kw (ld_glob I hg hm ?_ hdb)
 refine PySem.W.callWith_K (h₀ := X.base) I.ok.mod.kin hk (thn (ha pos pins s σ H _ I h) fun us s1 ⟨vs,H1,I1,r,q⟩ => ⟨I1.kIn,?_⟩) he hpl
 exact run_fn F hr hb hd hx I1 r q
end
section
variable {X : Cx} {CX : CXT} {k : Nat} {f C : Addr} {fd : FuncData} {ps ks : List Str} {sp : Sp} {E : XK} {x m : Str} {p pos apos kpos : Pos} {e o : Expr} {es : List Expr} {kws : List Keyword} {te ta : TE} {t tk : TA} {nm : Option Str}
variable {g : List Value -> List Value -> List Value} {gV : List V -> List V -> List V}
end
structure FnScope (N P : List Str) (sc : Scope) : Prop where
 kind : sc.kind = .function
 co : sc.isCoroutine = false
 gen : sc.isGenerator = false
 nd : N.Nodup
 pre : N.take P.length = P
 par : ∀ x ∈ P,sc.names.lookup x = some .local ∨ sc.names.lookup x = some .cell
 nofree : ∀ y ∈ sc.names,y.2 ≠ .free
theorem bindL_out {kindOf : Str -> Option NameKind} {x : Str} : ∀ {binds : List (Str × Value)} {m : Str -> Option Value},(∀ v,(x,v) ∉ binds) -> bindL kindOf binds m x = m x
 | [],_,_ => rfl
 | (n,v) :: r,m,h => by
   unfold bindL
   rw [bindL_out fun w hw => h w (List.mem_cons_of_mem _ hw)]
   split
   . have : x ≠ n := by rintro rfl; exact h v List.mem_cons_self
     simp [this]
   . rfl
theorem bindC_out {kindOf : Str -> Option NameKind} {x : Str} : ∀ {binds : List (Str × Value)} {m : Str -> Option Value},(∀ v,(x,v) ∉ binds) -> bindC kindOf binds m x = m x
 | [],_,_ => rfl
 | (n,v) :: r,m,h => by
   unfold bindC
   rw [bindC_out fun w hw => h w (List.mem_cons_of_mem _ hw)]
   split
   . rfl
   . have : x ≠ n := by rintro rfl; exact h v List.mem_cons_self
     simp [this]
theorem bindL_get {kindOf : Str -> Option NameKind} {x : Str} {v : Value} : ∀ {P : List Str} {vs : List Value} {i : Nat} {m : Str -> Option Value},P.Nodup -> P[i]? = some x -> vs[i]? = some v -> kindOf x = some .local ->
   bindL kindOf (P.zip vs) m x = some v
 | [],_,_,_,_,h,_,_ => by simp at h
 | _ :: _,[],_,_,_,_,h,_ => by simp at h
 | p :: P,w :: vs,0,m,nd,h1,h2,hk => by
   simp at h1 h2; subst h1; subst h2
   show bindL kindOf ((p,w) :: P.zip vs) m p = _
   unfold bindL
   rw [bindL_out fun v hv => (List.nodup_cons.mp nd).1 (List.of_mem_zip hv).1,if_pos hk]
   simp
 | p :: P,w :: vs,i + 1,m,nd,h1,h2,hk => by
   show bindL kindOf ((p,w) :: P.zip vs) m x = _
   unfold bindL
   exact bindL_get (i := i) (List.nodup_cons.mp nd).2 (by simpa using h1) (by simpa using h2) hk
theorem bindC_get {kindOf : Str -> Option NameKind} {x : Str} {v : Value} : ∀ {P : List Str} {vs : List Value} {i : Nat} {m : Str -> Option Value},P.Nodup -> P[i]? = some x -> vs[i]? = some v -> kindOf x ≠ some .local ->
   bindC kindOf (P.zip vs) m x = some v
 | [],_,_,_,_,h,_,_ => by simp at h
 | _ :: _,[],_,_,_,_,h,_ => by simp at h
 | p :: P,w :: vs,0,m,nd,h1,h2,hk => by
   simp at h1 h2; subst h1; subst h2
   show bindC kindOf ((p,w) :: P.zip vs) m p = _
   unfold bindC
   rw [bindC_out fun v hv => (List.nodup_cons.mp nd).1 (List.of_mem_zip hv).1,if_neg hk]
   simp
 | p :: P,w :: vs,i + 1,m,nd,h1,h2,hk => by
   show bindC kindOf ((p,w) :: P.zip vs) m x = _
   unfold bindC
   exact bindC_get (i := i) (List.nodup_cons.mp nd).2 (by simpa using h1) (by simpa using h2) hk
def start (N : List Str) (vs : List V) : St := vs.map some ++ List.replicate (N.length - vs.length) none
def cxOf (CX : CXT) (P : Program) (w : World) (K : PySem.W.Frag) (mg : Str -> Option Value) (base : Heap) (N : List Str) (qual : Str) (scope : Scope) (f : Addr) (cd : Value) (A : Around) (outer : List Env) (s : Shared) (H : Hp) (E : XK) : Cx where
 prog := P
 w := w
 K := K
 mg := mg
 base := base
 A := A.deeper (envOfC qual scope s.heap.objs.size f cd)
 N := N
 s₀ := s
 H₀ := H
 env := envOfC qual scope s.heap.objs.size f cd
 outer := outer
 stack := envOfC qual scope s.heap.objs.size f cd :: outer
 ex := []
 calm := true
 fn := fun _ => true
 pn := []
 xe := fun e s' => wpAny (model P w) (A.deeper (envOfC qual scope s.heap.objs.size f cd)) (leaving (envOfC qual scope s.heap.objs.size f cd) e) (fun _ s'' => CX outer H s E e s'') (fun e' s'' => CX outer H s E e' s'') s'
theorem cell_has {sc : Scope} {n : Nat} {x : Str} (h : sc.names.lookup x = some .cell) : ∃ c,(cellsFrom n sc.names []).lookup x = some c := by
 have q := PySem.W.cellsFrom_some sc.names n [] (.inl h)
 exact Option.isSome_iff_exists.mp q
theorem inv_start {CX : CXT} {P : Program} {w : World} {K : PySem.W.Frag} {mg : Str -> Option Value} {base : Heap} {N ps : List Str} {qual : Str} {scope : Scope} {f : Addr} {cd : Value} {A : Around} {outer : List Env} {s s1 : Shared} {H : Hp} {E : XK} {us : List Value} {vs : List V}
   (S : FnScope N ps scope) (hd : A.handled = none) (e0 : Env0 P w K mg base A outer s H) (hl : vs.length = ps.length) (r : Vals vs us)
   (x : InCallC s s.heap.objs.size (bindL (envOfC qual scope s.heap.objs.size f cd).kindOf (ps.zip us) fun _ => none) (cellsFrom (s.heap.objs.size + 1) scope.names []) (bindC (envOfC qual scope s.heap.objs.size f cd).kindOf (ps.zip us) fun _ => none) s1) :
   Inv (cxOf CX P w K mg base N qual scope f cd A outer s H E) [] (start N vs) H s1 := by
 have hpl : ps.length <= N.length := by have := congrArg List.length S.pre; rw [List.length_take] at this; omega
 obtain ⟨h1,tk,rfl,hk⟩ := x.done
 have noA : ∀ b : Addr,b ∉ (cxOf CX P w K mg base N qual scope f cd A outer s H E).ex := fun b z => absurd (show b ∈ ([] : List Addr) from z) (by simp)
 refine ⟨⟨e0.mod,S.kind,rfl,rfl,Nat.le_refl _,fun y z c h1 h2 => ?_,fun y hy => ?_,fun y c _ h => ?_,fun _ => hd,Around.frames_deeper e0.frames,.inr ⟨rfl,rfl⟩,fun b z => absurd z (noA b),e0.bs,e0.bsz,fun b _ _ => noA b,fun b z => absurd z (noA b),e0.funs,e0.frf⟩,
   rfl,e0.bare,Un.kept hk,⟨_,x.toInCall.ns,fun i y v h1 h2 h3 => ?_⟩,fun y c h => ⟨_,x.cell y c h⟩,e0.hok.fresh (Nat.le_refl _),fun y c h => ?_,fun p hp => absurd (show p ∈ ([] : List (Addr × Obj)) from hp) (by simp),e0.hok.kept hk,?_⟩
 . exact name_of_addr x.apart (PySem.mem_of_lookup h1) (PySem.mem_of_lookup h2)
 . have hy : scope.names.lookup y = some .cell ∨ scope.names.lookup y = some .free := hy
   rcases hy with hy | hy
   . exact cell_has hy
   . exact absurd rfl (S.nofree _ (PySem.mem_of_lookup hy))
 . exact Nat.le_of_lt (x.above y c (PySem.mem_of_lookup h))
 . have hi : i < vs.length := by
     unfold start at h2
     by_cases hi : i < vs.length
     . exact hi
     . rw [List.getElem?_append_right (by simpa using hi)] at h2
       rw [List.getElem?_replicate] at h2
       split at h2 <;> cases h2
   have ha : vs[i]? = some v := by
     unfold start at h2
     rw [List.getElem?_append_left (by simpa using hi),List.getElem?_map] at h2
     cases e : vs[i]? with
     | none => rw [e] at h2; cases h2
     | some a => rw [e] at h2; cases h2; rfl
   obtain ⟨u,hu,rv⟩ := r.get ha
   have hp : ps[i]? = some y := by
     rw [<- S.pre,List.getElem?_take_of_lt (by omega)]; exact h1
   have ndP : ps.Nodup := by rw [<- S.pre]; exact S.nd.sublist (List.take_sublist _ _)
   refine ⟨u,rv,?_⟩
   rcases S.par y (List.mem_of_getElem? hp) with k | k
   . exact .inl ⟨k,bindL_get ndP hp hu k⟩
   . obtain ⟨c,e⟩ := cell_has (n := s.heap.objs.size + 1) k
     refine .inr ⟨.inl k,c,e,?_⟩
     have q := x.cell y c e
     rw [bindC_get ndP hp hu (by show scope.names.lookup y ≠ _; rw [k]; decide)] at q
     exact q
 . exact e0.hok.fresh (Nat.le_of_lt (x.above y c (PySem.mem_of_lookup h)))
 . unfold start
   show _ = N.length
   rw [List.length_append,List.length_map,List.length_replicate]
   omega
theorem fn_of {CX : CXT} {P : Program} {w : World} {K : PySem.W.Frag} {mg : Str -> Option Value} {base : Heap} {k : Nat} {f : Addr} {name qual : Str} {params : Arguments} {body : List Stmt} {scope : Scope} {dV kV doc pm cdv ct oc : Value} {an od : Option Addr}
   {osl : Array (Option Value)} {N ps : List Str} {sp : Sp} (lk : K.lookup f = some ⟨oc,od,.func (PySem.W.fnOf name qual params body scope dV kV doc pm an cdv ct),osl⟩) (hcd : PySem.W.codeIn K cdv qual = true) (S : FnScope N ps scope)
   (len : ∀ vs H Q E,sp vs H Q E -> vs.length = ps.length)
   (hbody : ∀ (A : Around) (outer : List Env) (s : Shared) (H : Hp) (vs : List V) (Q : VK) (E : XK),Room k (A.deeper (envOfC qual scope s.heap.objs.size f cdv)) -> sp vs H Q E ->
     ∃ t,PSs (cxOf CX P w K mg base N qual scope f cdv A outer s H E) body t /\ t { nx := fun _ H' => Q .non H',rt := Q } (start N vs) H) :
   FnOk P w K mg base CX (k + 1) f (PySem.W.fnOf name qual params body scope dV kV doc pm an cdv ct) ps sp := by
 refine ⟨len,fun A outer s H args us vs Q E hr e0 hb r hsp => ?_⟩
 have hl := len _ _ _ _ hsp
 have KX : K.In s.heap := e0.mod.kin.keeps fun b o e => (e0.bs b o e).1
 have lim : s.heap.NoLimit := e0.mod.nolimit.keeps fun b o e => (e0.bs b o e).1
 have hkind : ∀ y ∈ ps.zip us,scope.names.lookup y.1 = some .local ∨ (scope.names.lookup y.1 = some .cell /\ ((cellsFrom (s.heap.objs.size + 1) scope.names []).lookup y.1).isSome = true) := fun ⟨n,v⟩ hy => by
   rcases S.par n (List.of_mem_zip hy).1 with q | q
   . exact .inl q
   . exact .inr ⟨q,PySem.W.cellsFrom_some _ _ _ (.inl q)⟩
 refine codeAny_call_function hr.depth (KX _ _ lk) rfl S.co S.gen rfl (PySem.W.codeRec_of KX hcd) (hb _ _ _ _ ?_)
 refine wpAny_newFunctionEnv_cells S.kind hkind fun env he s1 x => ?_
 subst he
 refine ⟨lim.keeps x.toInCall.keep,codeAny_func ?_⟩
 obtain ⟨t,ht,hq⟩ := hbody A outer s H vs Q E (hr.deeper _) hsp
 have I : Inv (cxOf CX P w K mg base N qual scope f cdv A outer s H E) [] (start N vs) H s1 := inv_start S hr.hd e0 hl r x
 refine wpAny_mono (ht [] s1 (start N vs) H _ I hq) (fun fl s' hs => ?_) fun e s' hs => hs
 have fin : ∀ {σ' : St} {H' : Hp} {v : V} {u : Value},Inv (cxOf CX P w K mg base N qual scope f cdv A outer s H E) [] σ' H' s' -> RelV v u -> Q v H' -> CE outer P w H s Q u s' :=
   fun {σ' H' v u} J rv q => ⟨v,H',J.os,J.bare,J.base,J.hok,rv,q⟩
 cases fl with
 | ret u =>
   obtain ⟨v,σ',H',J,rv,q⟩ := hs
   exact fin J rv q
 | next =>
   obtain ⟨σ',H',J,q⟩ := hs
   exact fin (v := V.non) (u := Value.none) J rfl q
 | brk =>
   obtain ⟨_,_,_,q⟩ := hs
   exact False.elim q
 | cont =>
   obtain ⟨_,_,_,q⟩ := hs
   exact False.elim q
end L2
namespace L2
open PySem PySem.Spec PyProof.Rows
section
variable {X : Cx} {x : Str} {p pos : Pos} {e : Expr} {es : List Expr} {t : TA} {id T : String} {r : List V -> Hp -> VK -> Prop}
def tCB (r : List V -> Hp -> VK -> Prop) (t : TA) : TE := fun σ H Q => t σ H fun vs H1 => r vs H1 Q
theorem pe_callB (hc : CallR X (.builtin id) r) (hg : Gl X x) (hm : X.mg x = none) (hv : bootBuiltins x = some (.builtin id)) (ha : PA X (e :: es) t) (hn : x ≠ "__name__" := by decide) (hdb : (x == ("__debug__" : Str)) = false := by decide)
   (he : starEach (e :: es) X.env = (false,eval e X.env) :: starEach es X.env := by rfl) (hpl : (backTo pos (starEach es X.env)).any (·.1) = false := by rfl) : PE X (.Call (.Name x p) (e :: es) [] pos) (tCB r t) := by
 intro pins s σ H Q I h
 refine wpAny_Call_Name_kw (ld_blt I hg hm hv ?_ hn hdb)
 exact PyProof.Rows.callWith_builtin1 (thn (ha pos pins s σ H _ I h) fun us s1 ⟨vs,H1,I1,r1,q1⟩ => hc pins s1 σ H1 vs us Q I1 r1 q1) he hpl
theorem pe_callTy (hc : CallR X (.type T) r) (hg : Gl X x) (hm : X.mg x = none) (hv : bootBuiltins x = some (.type T)) (ha : PA X (e :: es) t) (hn : x ≠ "__name__" := by decide) (hdb : (x == ("__debug__" : Str)) = false := by decide)
   (he : starEach (e :: es) X.env = (false,eval e X.env) :: starEach es X.env := by rfl) (hpl : (backTo pos (starEach es X.env)).any (·.1) = false := by rfl) : PE X (.Call (.Name x p) (e :: es) [] pos) (tCB r t) := by
 intro pins s σ H Q I h
 refine wpAny_Call_Name_kw (ld_blt I hg hm hv ?_ hn hdb)
 exact PyProof.Rows.callWith_type1 (thn (ha pos pins s σ H _ I h) fun us s1 ⟨vs,H1,I1,r1,q1⟩ => hc pins s1 σ H1 vs us Q I1 r1 q1) he hpl
end
end L2
namespace HT
open PySem PyProof.Rows
section
open PySem.SeqAt
open PySem.AutoSeq1 (wpAny_loadPart')
open PySem.MeetsSeq PySem.MeetsSeq2 PySem.MeetsSeq3
end
section
variable {prog : Program} {w : World} {A : Around} {E : Value -> Shared -> Prop} {s : Shared}
theorem cat_tup {t b : Addr} {vs ws : List Value} {Q : Value -> Shared -> Prop} (ht : IsTup s.heap t vs.toArray) (hb : IsTup s.heap b ws.toArray) (hv : vs ≠ [])
   (h1 : ws = [] -> Q (.ref t) s) (h2 : ws ≠ [] -> Q (.ref s.heap.objs.size) { s with heap := s.heap.push { cls := .type "tuple",data := .seq (vs ++ ws).toArray } })
   (hsz : vs.length + ws.length <= sizeLine) : wpAny (model prog w) A (binaryOp .Add (.ref t) (.ref b)) Q E s := by
 obtain ⟨⟨cls,dd,data,sl⟩,ho,hc,n,hd⟩ := id ht
 obtain ⟨⟨cls2,dd2,data2,sl2⟩,ho2,hc2,n2,hd2⟩ := id hb
 simp only at hc hd hc2 hd2
 subst hc hd hc2 hd2
 have e : vs.toArray ++ ws.toArray = (vs ++ ws).toArray := by simp
 by_cases hw : ws = []
 . exact concat_meets ⟨_,ho,rfl⟩ ⟨_,ho2,rfl⟩ noFill_tuple_add seq_tuple_add PySem.F.slot_tuple_add PySem.F.entry_tuple_add (PySem.F.args_tuple_add_2 _ _)
     (tuple_addW1 t b vs.toArray ws.toArray n n2 dd dd2 sl sl2 (by simpa using hv) (by simp [hw])) ⟨ho,ho2,h1 hw⟩
 . refine concat_meets ⟨_,ho,rfl⟩ ⟨_,ho2,rfl⟩ noFill_tuple_add seq_tuple_add PySem.F.slot_tuple_add PySem.F.entry_tuple_add (PySem.F.args_tuple_add_2 _ _)
     (tuple_addW2 t b vs.toArray ws.toArray n n2 dd dd2 sl sl2 (by simpa using hv) (by simpa using hw) (by rw [List.size_toArray,List.size_toArray]; exact hsz)) ⟨ho,ho2,?_⟩
   rw [e]
   exact h2 hw
def sIx (n d : Nat) : Option Int -> Nat
 | none => d
 | some v => if v < 0 then (v + (n : Int)).toNat else min v.toNat n
theorem sIx_none (n d : Nat) : sIx n d none = d := rfl
theorem sIx_nat (n d k : Nat) : sIx n d (some (k : Int)) = min k n := by
 show (if (k : Int) < 0 then ((k : Int) + (n : Int)).toNat else min (k : Int).toNat n) = min k n
 rw [if_neg (by omega),Int.toNat_natCast]
theorem sIx_le (n d : Nat) (hd : d <= n) (o : Option Int) : sIx n d o <= n := by
 cases o with
 | none => exact hd
 | some v =>
   show (if v < 0 then (v + (n : Int)).toNat else min v.toNat n) <= n
   by_cases hv : v < 0
   . rw [if_pos hv]; omega
   . rw [if_neg hv]; exact Nat.min_le_right _ _
theorem clip_eq (v : Int) (n d : Nat) : (if v < 0 then max (v + (n : Int)) 0 else min v (n : Int)) = ((sIx n d (some v) : Nat) : Int) := by
 show (if v < 0 then max (v + (n : Int)) 0 else min v (n : Int)) = (((if v < 0 then (v + (n : Int)).toNat else min v.toNat n) : Nat) : Int)
 by_cases hv : v < 0
 . simp only [if_pos hv]; omega
 . simp only [if_neg hv]; omega
theorem adjust_gen (lo hi : Option Int) (n : Nat) : Builtin.Slice.sliceAdjust lo hi 1 (n : Int) = (((sIx n 0 lo : Nat) : Int),((sIx n n hi : Nat) : Int)) := by
 have h1 : ¬ ((1 : Int) < 0) := by omega
 unfold Builtin.Slice.sliceAdjust
 simp only [h1,if_false]
 refine Prod.ext ?_ ?_
 . cases lo with
   | none => rfl
   | some v => exact clip_eq v n 0
 . cases hi with
   | none => rfl
   | some v => exact clip_eq v n n
theorem places_gen (i j : Nat) : Builtin.Slice.slicePlaces (i : Int) (j : Int) 1 = j - i := by
 unfold Builtin.Slice.slicePlaces
 have h1 : (1 : Int) > 0 := by omega
 simp only [h1,if_true,Int.ediv_one]
 split <;> omega
theorem slicePart_ {v : Value} {o : Option Int} {Q : Option Int -> Shared -> Prop} (p : IsPart v o) (h : Q o s) : wpAny (model prog w) A (Builtin.Slice.slicePartIndex v) Q E s := by
 cases p with
 | none => exact slicePart_none h
 | int i t => exact slicePart_int h
theorem sliceApplied_gen {sl : Addr} {vl vu : Value} {lo hi : Option Int} {n : Nat} {Q : Int × Int × Nat -> Shared -> Prop} (hs : s.heap.IsSliceOf sl vl vu .none) (pl : IsPart vl lo) (pu : IsPart vu hi)
   (h : Q (((sIx n 0 lo : Nat) : Int),1,sIx n n hi - sIx n 0 lo) s) : wpAny (model prog w) A (Builtin.Slice.sliceApplied (.ref sl) (pure (n : Int))) Q E s := by
 obtain ⟨os,hos,hcs,hds⟩ := id hs
 unfold Builtin.Slice.sliceApplied Builtin.Slice.sliceFields
 refine wpAny_bind (wpAny_bind (wpAny_field hos hds (x := vl) rfl (wpAny_bind (wpAny_field hos hds (x := vu) rfl (wpAny_bind (wpAny_field hos hds (x := .none) rfl (wpAny_pure ?_)))))))
 refine wpAny_bind (slicePart_none ?_)
 show wpAny _ _ (if ((1 : Int) == 0) = true then _ else _) _ _ s
 rw [if_neg (by decide)]
 refine wpAny_bind (slicePart_ pl (wpAny_bind (slicePart_ pu (wpAny_bind (wpAny_pure ?_)))))
 show wpAny _ _ (match Builtin.Slice.sliceAdjust lo hi 1 (n : Int) with | (lo,hi) => pure (lo,(1 : Int),Builtin.Slice.slicePlaces lo hi 1)) _ _ s
 rw [adjust_gen lo hi n]
 show wpAny _ _ (pure (((sIx n 0 lo : Nat) : Int),(1 : Int),Builtin.Slice.slicePlaces ((sIx n 0 lo : Nat) : Int) ((sIx n n hi : Nat) : Int) 1)) _ _ s
 rw [places_gen]
 exact wpAny_pure h
theorem pick_gen (xs : Array Value) (i k : Nat) : ((List.range k).filterMap fun (m : Nat) => xs[((i : Int) + (m : Int) * 1).toNat]?).toArray = ((xs.toList.drop i).take k).toArray := by
 have e : (fun (m : Nat) => xs[((i : Int) + (m : Int) * 1).toNat]?) = fun m => xs[i + m]? := by
   funext m
   have : ((i : Int) + (m : Int) * 1).toNat = i + m := by omega
   rw [this]
 rw [e]
 have := pick_run xs i k
 rw [List.filterMap_map] at this
 have e2 : ((fun x => xs[x]?) ∘ fun x => i + x) = fun m => xs[i + m]? := rfl
 rw [e2] at this
 rw [this]
theorem getItem_tuple_cut {t sl : Addr} {items : Array Value} {vl vu : Value} {lo hi : Option Int} {Q : Value -> Shared -> Prop} (ht : IsTup s.heap t items) (hs : s.heap.IsSliceOf sl vl vu .none) (pl : IsPart vl lo) (pu : IsPart vu hi)
   (hw : ¬ (sIx items.size 0 lo = 0 /\ sIx items.size items.size hi = items.size))
   (h : Q (.ref s.heap.objs.size) { s with heap := s.heap.push { cls := .type "tuple",data := .seq ((items.toList.drop (sIx items.size 0 lo)).take (sIx items.size items.size hi - sIx items.size 0 lo)).toArray } })
   (hsz : items.size <= sizeLine) : wpAny (model prog w) A (getItem (.ref t) (.ref sl)) Q E s := by
 have htake : sizeOk (.seq ((items.toList.drop (sIx items.size 0 lo)).take (sIx items.size items.size hi - sIx items.size 0 lo)).toArray) := by
   show ((items.toList.drop (sIx items.size 0 lo)).take (sIx items.size items.size hi - sIx items.size 0 lo)).toArray.size <= sizeLine
   rw [List.size_toArray,List.length_take,List.length_drop,Array.length_toList]
   omega
 have hj : sIx items.size items.size hi <= items.size := sIx_le _ _ (Nat.le_refl _) hi
 obtain ⟨os,hos,hcs,hds⟩ := id hs
 have hTs : s.TypeIs (.ref sl) "slice" := ⟨os,hos,hcs⟩
 unfold getItem
 try with_reducible refine wpAny_holding ?_
 first | refine wpAny_bind (wpAny_pure ?_) | skip
 refine wpAny_bind (wpAny_sequenceKey ht.typeIs (by decide) ?_)
 refine wpAny_bind (wpAny_callSpecial?_slot (name := Str.ofString "__getitem__") ht.typeIs PyProof.Rows.slot_tuple_getitem
   (wpAny_call_entry PyProof.Rows.slot_tuple_getitem ht.typeIs entry_tuple_getitem ?_ (args_tuple_getitem _ _)))
 show wpAny _ _ (Builtin.Tuple.tupleItemsOf (.ref t) >>= _) _ _ s
 refine wpAny_bind (tupleItemsOf_ ht ?_)
 refine wpAny_bind (wpAny_typeOf hTs ?_)
 rw [if_pos (by decide)]
 refine wpAny_bind (sliceApplied_gen hs pl pu ?_)
 have hno : ¬ ((((sIx items.size 0 lo : Nat) : Int) == 0 && (1 : Int) == 1 && (sIx items.size items.size hi - sIx items.size 0 lo) == items.size) = true) := by
   intro q
   rw [Bool.and_eq_true,Bool.and_eq_true] at q
   have q1 : ((sIx items.size 0 lo : Nat) : Int) = 0 := eq_of_beq q.1.1
   have q2 : sIx items.size items.size hi - sIx items.size 0 lo = items.size := eq_of_beq q.2
   exact hw ⟨by omega,by omega⟩
 show wpAny _ _ (if (((sIx items.size 0 lo : Nat) : Int) == 0 && (1 : Int) == 1 && (sIx items.size items.size hi - sIx items.size 0 lo) == items.size) = true then _ else _) _ _ s
 rw [if_neg hno,pick_gen]
 first
   | exact wpAny_bind (m := Builtin.Tuple.tupleExact _) (wpAny_newObj_type (wpAny_pure ⟨_,rfl,wpAny_pure h⟩) htake)
   | exact wpAny_bind (m := Builtin.Tuple.tupleExact _) (wpAny_newObj_type (wpAny_bind (wpAny_pure (wpAny_pure ⟨_,rfl,wpAny_pure h⟩))) htake)
   | exact wpAny_bind (wpAny_bind (m := Builtin.Tuple.tupleExact _) (wpAny_newObj_type (wpAny_pure (wpAny_pure ⟨_,rfl,wpAny_pure h⟩)) htake))
   | exact wpAny_bind (wpAny_bind (m := Builtin.Tuple.tupleExact _) (wpAny_newObj_type (wpAny_pure ⟨_,rfl,wpAny_pure h⟩) htake))
end
end HT
namespace L2
open PySem PySem.Spec PyProof.Rows
abbrev TO := St -> Hp -> (Option Int -> Hp -> Prop) -> Prop
def PO (X : Cx) (e : Option Expr) (t : TO) : Prop :=
 ∀ (pins : List (Addr × Obj)) (s : Shared) (σ : St) (H : Hp) (Q : Option Int -> Hp -> Prop),Inv X pins σ H s -> t σ H Q ->
   wpAny (model X.prog X.w) X.A (evalPart e X.env) (fun u s' => ∃ o H',Inv X pins σ H' s' /\ IsPart u o /\ Q o H') X.xe s
def tNoPart : TO := fun _ H Q => Q none H
section
variable {X : Cx} {e : Expr} {te : TE} {lo hi : Option Expr} {tl th : TO} {pos p2 : Pos}
theorem po_none : PO X none tNoPart := by
 intro pins s σ H Q I h
 rw [evalPart_none]
 exact wpAny_pure ⟨none,H,I,.none,h⟩
def SlR (X : Cx) (r : V -> Option Int -> Option Int -> Hp -> VK -> Prop) : Prop :=
 ∀ (pins : List (Addr × Obj)) (s : Shared) (σ : St) (H : Hp) (x : V) (v vl vu : Value) (lo hi : Option Int) (sl : Addr) (Q : VK),Inv X pins σ H s -> RelV x v -> s.heap.IsSliceOf sl vl vu .none -> IsPart vl lo -> IsPart vu hi -> r x lo hi H Q ->
   ∃ T id,typeLookup (.type T) "__getitem__" = pure (some (.builtin id)) /\ s.TypeIs v T /\ wpAny (model X.prog X.w) X.A (getItem v (.ref sl)) (EP X pins σ Q) X.xe s
def tSl (r : V -> Option Int -> Option Int -> Hp -> VK -> Prop) (te : TE) (tl th : TO) : TE := fun σ H Q => te σ H fun x H1 => tl σ H1 fun l H2 => th σ H2 fun u H3 => r x l u H3 Q
theorem pe_slice {r : V -> Option Int -> Option Int -> Hp -> VK -> Prop} (hr : SlR X r) (he : PE X e te) (hl : PO X lo tl) (hu : PO X hi th) : PE X (.Subscript e (.Slice lo hi none p2) pos) (tSl r te tl th) := by
 intro pins s σ H Q I h
 refine Subscript_ (thn (he pins s σ H _ I h) fun v s1 ⟨x,H1,I1,r1,q1⟩ => ?_)
 refine wpAny_Slice (thn (hl pins s1 σ H1 _ I1 q1) fun vl s2 ⟨l,H2,I2,pl,q2⟩ => thn (hu pins s2 σ H2 _ I2 q2) fun vu s3 ⟨u,H3,I3,pu,q3⟩ => ?_)
 rw [evalPart_none]
 refine wpAny_pure ?_
 have I4 : Inv X pins σ H3 { s3 with heap := s3.heap.push { cls := .type "slice",data := .fields #[vl,vu,.none] } } := I3.kept (t' := s3.toks) fun b ob q => Heap.get?_push_of_some _ q
 obtain ⟨T,id,hT,ht,hg⟩ := hr pins { s3 with heap := s3.heap.push { cls := .type "slice",data := .fields #[vl,vu,.none] } } σ H3 x v vl vu l u s3.heap.objs.size Q I4 r1 (Heap.IsSliceOf.new ..) pl pu q3
 show wpAny (model X.prog X.w) X.A (subscriptTail e (.Slice lo hi none p2) v (.ref s3.heap.objs.size)) (EP X pins σ Q) X.xe { s3 with heap := s3.heap.push { cls := .type "slice",data := .fields #[vl,vu,.none] } }
 exact tail_any (ops := [.ref s3.heap.objs.size,v]) ht hT hg (by with_unfolding_all rfl)
def cutV (xs : List V) (lo hi : Option Int) : List V := (xs.drop (HT.sIx xs.length 0 lo)).take (HT.sIx xs.length xs.length hi - HT.sIx xs.length 0 lo)
theorem cutV_length (xs : List V) (lo hi : Option Int) : (cutV xs lo hi).length <= xs.length := by
 unfold cutV
 rw [List.length_take,List.length_drop]
 omega
def rSlT (K : PySem.W.Frag) : V -> Option Int -> Option Int -> Hp -> VK -> Prop := fun x lo hi H Q => ∃ a xs,x = .ref a /\ SqT K H a xs /\
 ¬ (HT.sIx xs.length 0 lo = 0 /\ HT.sIx xs.length xs.length hi = xs.length) /\ ∀ p,H p = none -> Q (.ref p) (upd H p (.tup (cutV xs lo hi)))
theorem sl_tup : SlR X (rSlT X.K) := by
 intro pins s σ H x v vl vu lo hi sl Q I rx hs pl pu h
 obtain ⟨a,xs,rfl,hx,hw,q⟩ := h
 cases rx
 obtain ⟨its,r,ht,hz⟩ := I.tuple hx
 have hlen : its.toArray.size = xs.length := by rw [List.size_toArray]; exact r.length.symm
 refine ⟨"tuple",_,PyProof.Rows.slot_tuple_getitem.lookup,ht.typeIs,?_⟩
 refine HT.getItem_tuple_cut ht hs pl pu (by rw [hlen]; exact hw) ?_ (by rw [hlen]; exact hz)
 rw [hlen]
 refine ⟨.ref s.heap.objs.size,_,I.laid (t' := s.toks) (o := .tup (cutV xs lo hi)) (fun b ob q => Heap.get?_push_of_some _ q) (Nat.le_refl _) ?_,rfl,q _ (I.hok.fresh (Nat.le_refl _))⟩
 exact ⟨Nat.le_trans (cutV_length xs lo hi) hz,_,(r.drop (HT.sIx xs.length 0 lo)).take (HT.sIx xs.length xs.length hi - HT.sIx xs.length 0 lo),IsTup.new _ _⟩
def rCatT (K : PySem.W.Frag) : R2 := fun x y H Q => ∃ a b xs ys,x = .ref a /\ y = .ref b /\ SqT K H a xs /\ SqT K H b ys /\ xs ≠ [] /\ xs.length + ys.length <= sizeLine /\
 (ys = [] -> Q (.ref a) H) /\ (ys ≠ [] -> ∀ p,H p = none -> Q (.ref p) (upd H p (.tup (xs ++ ys))))
theorem Vals.nil_iff {xs : List V} {us : List Value} (r : Vals xs us) : us = [] ↔ xs = [] := by
 cases r with
 | nil => simp
 | cons _ _ => simp
theorem op_catT : OpR X (binaryOp .Add) (rCatT X.K) := by
 intro pins s σ H x y v u Q I rx ry h
 obtain ⟨a,b,xs,ys,rfl,rfl,ha,hb,hx,hz,q1,q2⟩ := h
 cases rx
 cases ry
 obtain ⟨its,r1,p1,_⟩ := I.tuple ha
 obtain ⟨its2,r2,p2,_⟩ := I.tuple hb
 refine HT.cat_tup p1 p2 (fun z => hx (r1.nil_iff.mp z)) (fun z => ⟨.ref a,H,I,rfl,q1 (r2.nil_iff.mp z)⟩) (fun z => ?_) (by rw [<- r1.length,<- r2.length]; exact hz)
 refine ⟨.ref s.heap.objs.size,_,I.laid (t' := s.toks) (o := .tup (xs ++ ys)) (fun b ob q => Heap.get?_push_of_some _ q) (Nat.le_refl _) ?_,rfl,q2 (fun w => z (r2.nil_iff.mpr w)) _ (I.hok.fresh (Nat.le_refl _))⟩
 exact ⟨by rw [List.length_append]; exact hz,_,r1.append r2,IsTup.new _ _⟩
end
end L2
namespace L2
open PySem PySem.Spec PyProof.Rows
def ixN (n : Nat) (i : Int) : Option Nat := if 0 <= i then (if i < n then some i.toNat else none) else if -(n : Int) <= i then some (i + n).toNat else none
def atI {α : Type} (xs : List α) (i : Int) : Option α := (ixN xs.length i).bind fun j => xs[j]?
theorem ixN_seq {n : Nat} {i : Int} {j : Nat} (h : ixN n i = some j) : seqIndex? i n = some j /\ j < n /\ -(n : Int) <= i /\ i < n := by
 unfold ixN at h
 by_cases h0 : 0 <= i
 . rw [if_pos h0] at h
   by_cases h1 : i < n
   . rw [if_pos h1] at h
     have e : i.toNat = j := Option.some.inj h
     exact ⟨by rw [seqIndex_of h0 h1,e],by omega,by omega,h1⟩
   . rw [if_neg h1] at h; cases h
 . rw [if_neg h0] at h
   by_cases h1 : -(n : Int) <= i
   . rw [if_pos h1] at h
     have e : (i + n).toNat = j := Option.some.inj h
     exact ⟨by rw [seqIndex_neg (by omega) h1,e],by omega,h1,by omega⟩
   . rw [if_neg h1] at h; cases h
theorem atI_get {α : Type} {xs : List α} {i : Int} {v : α} (h : atI xs i = some v) : ∃ j,seqIndex? i xs.length = some j /\ xs[j]? = some v /\ j < xs.length /\ -(xs.length : Int) <= i /\ i < xs.length := by
 unfold atI at h
 cases e : ixN xs.length i with
 | none => rw [e] at h; cases h
 | some j =>
   rw [e] at h
   obtain ⟨h1,h2,h3,h4⟩ := ixN_seq e
   exact ⟨j,h1,h,h2,h3,h4⟩
theorem atI_nat {α : Type} {xs : List α} {j : Nat} {v : α} (h : xs[j]? = some v) : atI xs (j : Int) = some v := by
 have hj : j < xs.length := (List.getElem?_eq_some_iff.mp h).1
 have e : ixN xs.length (j : Int) = some j := by
   unfold ixN
   rw [if_pos (by omega),if_pos (by omega)]; simp
 unfold atI; rw [e]; exact h
def PlainIx (b : Expr) : Prop := ∀ o i,subscripted b false o i = operate [o,i] (getItem o i)
def IxR (X : Cx) (r : R2) : Prop :=
 ∀ (value slice : Expr) (pins : List (Addr × Obj)) (s : Shared) (σ : St) (H : Hp) (x y : V) (v u : Value) (Q : VK),Inv X pins σ H s -> RelV x v -> RelV y u -> r x y H Q ->
   subscripted slice false v u = operate [v,u] (getItem v u) -> wpAny (model X.prog X.w) X.A (subscriptTail value slice v u) (EP X pins σ Q) X.xe s
def MtR (X : Cx) (id : String) (r : V -> List V -> Hp -> VK -> Prop) : Prop :=
 ∀ (pins : List (Addr × Obj)) (s : Shared) (σ : St) (H : Hp) (x : V) (xs : List V) (v : Value) (us : List Value) (Q : VK),Inv X pins σ H s -> RelV x v -> Vals xs us -> r x xs H Q ->
   wpAny (model X.prog X.w) X.A (call (.builtin id) (v :: us)) (EP X pins σ Q) X.xe s
section
variable {X : Cx} {a b : Expr} {ta tb : TE} {pos : Pos}
theorem pe_ix {r : R2} (hr : IxR X r) (ha : PE X a ta) (hb : PE X b tb) (hs : PlainIx b) : PE X (.Subscript a b pos) (tOp r ta tb) := by
 intro pins s σ H Q I h
 exact Subscript_ (binT ha hb I h fun v u s2 x y H2 I2 rx ry q => hr a b pins s2 σ H2 x y v u Q I2 rx ry q (hs _ _))
def rIxL (K : PySem.W.Frag) : R2 := fun x y H Q => ∃ p xs i v,x = .ref p /\ y = .int i /\ SqL K H p xs /\ atI xs i = some v /\ Q v H
def rIxT (K : PySem.W.Frag) : R2 := fun x y H Q => ∃ p xs i v,x = .ref p /\ y = .int i /\ SqT K H p xs /\ atI xs i = some v /\ Q v H
def rIxS : R2 := fun x y H Q => ∃ z i c,x = .str z /\ y = .int i /\ z.length <= sizeLine /\ atI z.cps.toList i = some c /\ Q (.str ⟨#[c]⟩) H
theorem ix_list : IxR X (rIxL X.K) := by
 intro value slice pins s σ H x y v u Q I rx ry h hs
 obtain ⟨p,xs,i,z,rfl,rfl,hq,he,q⟩ := h
 cases rx
 obtain ⟨t,rfl⟩ := ry
 obtain ⟨its,r,pl,hz⟩ := I.list hq
 obtain ⟨j,h1,h2,h3,h4,h5⟩ := atI_get he
 obtain ⟨w,ew,rw'⟩ := r.get h2
 have hl := r.length
 have hn := line63
 have fin : EP X pins σ Q w s := ⟨z,H,I,rw',q⟩
 by_cases h0 : 0 <= i
 . have hj : i.toNat = j := by
     rw [seqIndex_of h0 h5] at h1
     exact Option.some.inj h1
   exact item_listR pl.isList h0 (by omega) (by rw [hj]; simpa using ew) fin hs
 . have hj : (i + (its.toArray.size : Int)).toNat = j := by
     rw [seqIndex_neg (by omega) h4] at h1
     rw [List.size_toArray,<- hl]
     exact Option.some.inj h1
   exact subscriptTail_builtinR (x := w) pl.isList.typeIs slot_list_getitem.lookup
     (wpAny_getItem_list_neg (Q := fun r s' => r = w /\ EP X pins σ Q r s') pl.isList (by omega) (by rw [List.size_toArray] <;> omega) (by omega) (by rw [hj]; simpa using ew) ⟨rfl,fin⟩) hs
theorem ix_tup : IxR X (rIxT X.K) := by
 intro value slice pins s σ H x y v u Q I rx ry h hs
 obtain ⟨p,xs,i,z,rfl,rfl,hq,he,q⟩ := h
 cases rx
 obtain ⟨t,rfl⟩ := ry
 obtain ⟨its,r,pl,hz⟩ := I.tuple hq
 obtain ⟨j,h1,h2,h3,h4,h5⟩ := atI_get he
 obtain ⟨w,ew,rw'⟩ := r.get h2
 have hl := r.length
 have hn := line63
 have fin : EP X pins σ Q w s := ⟨z,H,I,rw',q⟩
 exact subscriptTail_builtinR (x := w) pl.typeIs slot_tuple_getitem.lookup
   (getItem_tuple (j := j) (Q := fun r s' => r = w /\ EP X pins σ Q r s') pl (by omega) (by omega) (by rw [List.size_toArray,<- hl]; exact h1) (by simpa using ew) ⟨rfl,fin⟩) hs
theorem ix_str : IxR X rIxS := by
 intro value slice pins s σ H x y v u Q I rx ry h hs
 obtain ⟨z,i,c,rfl,rfl,hz,he,q⟩ := h
 obtain ⟨t,rfl⟩ := rx
 obtain ⟨t',rfl⟩ := ry
 obtain ⟨j,h1,h2,h3,h4,h5⟩ := atI_get he
 have hl : z.cps.toList.length = z.length := by simp [Str.length]
 rw [hl] at h1 h4 h5
 have hn := line63
 exact tail_any (typeIs_str s z t) slot_str_getitem.lookup (getItem_str (c := c) (by
   have e1 : decide (i < -(2 ^ 63 : Int)) = false := decide_eq_false (by omega)
   have e2 : decide (i ≥ 2 ^ 63) = false := decide_eq_false (by omega)
   rw [e1,e2,Bool.or_false]) (by rw [h1]; simpa using h2) ⟨.str ⟨#[c]⟩,H,I.tok _,⟨_,rfl⟩,q⟩) hs
theorem mapSeq_set (its : List Value) (n j : Nat) (u : Value) : Obj.mapSeq (·.setIfInBounds j u) { cls := .type "list",data := .seq its.toArray n } = { cls := .type "list",data := .seq (its.set j u).toArray n } := by
 simp [Obj.mapSeq]
theorem Inv.lst {pins : List (Addr × Obj)} {σ : St} {H : Hp} {s : Shared} {p : Addr} {xs : List V} (I : Inv X pins σ H s) (h : H p = some (.lst xs)) :
   ∃ (its : List Value) (n : Nat),Vals xs its /\ s.heap.get? p = some { cls := .type "list",data := .seq its.toArray n } /\ xs.length <= sizeLine := by
 obtain ⟨z,its,n,r,e⟩ := I.hok p _ h
 exact ⟨its,n,r,e,z⟩
theorem Inv.lstUpd {pins : List (Addr × Obj)} {σ : St} {H : Hp} {s : Shared} {p : Addr} {xs ys : List V} {its its' : List Value} {n n' : Nat} {f : Obj -> Obj} (I : Inv X pins σ H s) (h : H p = some (.lst xs))
   (ho : s.heap.get? p = some { cls := .type "list",data := .seq its.toArray n }) (hf : f { cls := .type "list",data := .seq its.toArray n } = { cls := .type "list",data := .seq its'.toArray n' }) (r : Vals ys its') (hz : ys.length <= sizeLine) (t : Nat) :
   Inv X pins σ (upd H p (.lst ys)) { s with heap := s.heap.update p f,toks := t } := by
 have e : (s.heap.update p f).get? p = some { cls := .type "list",data := .seq its'.toArray n' } := by
   rw [Heap.get?_update_self f ho (by rw [hf] <;> rfl),hf]
 refine I.write (x := p) (e := p) (by rw [h]; trivial) (.inl rfl) (fun b u hb q => (Heap.get?_update_other _ _ (Ne.symm hb)).trans q) ⟨_,e⟩ ?_
 exact ⟨hz,its',n',r,e⟩
def rSetL : V -> V -> V -> Hp -> (Hp -> Prop) -> Prop := fun o i v H Q => ∃ p xs k j,o = .ref p /\ i = .int k /\ H p = some (.lst xs) /\ ixN xs.length k = some j /\ Q (upd H p (.lst (xs.set j v)))
theorem set_list : PSet X rSetL := by
 intro pins s σ H o i v ov iv u Q I ro ri rv h
 obtain ⟨p,xs,k,j,rfl,rfl,hp,hj,q⟩ := h
 cases ro
 obtain ⟨t,rfl⟩ := ri
 obtain ⟨its,n,r,ho,hz⟩ := I.lst hp
 obtain ⟨h1,h2,h3,h4⟩ := ixN_seq hj
 have hl := r.length
 have hn := line63
 have I' : Inv X pins σ (upd H p (.lst (xs.set j v))) { s with heap := s.heap.update p (Obj.mapSeq (·.setIfInBounds j u)) } :=
   I.lstUpd hp ho (mapSeq_set its n j u) (r.set rv j) (by rw [List.length_set]; exact hz) s.toks
 by_cases h0 : 0 <= k
 . have hk : k.toNat = j := by
     rw [seqIndex_of h0 h4] at h1
     exact Option.some.inj h1
   exact PySem.W.ki_setAt ho h0 (by omega) (by rw [List.size_toArray,<- hl]; exact h4) (by rw [hk]; exact ⟨_,I',q⟩)
 . have hk : (k + (its.toArray.size : Int)).toNat = j := by
     rw [seqIndex_neg (by omega) h3] at h1
     rw [List.size_toArray,<- hl]
     exact Option.some.inj h1
   exact PySem.W.ki_setBack ho (by omega) (by rw [List.size_toArray,<- hl]; exact h3) (by omega) (by rw [hk]; exact ⟨_,I',q⟩)
theorem slice_bounds (lo hi : Option Int) (n : Nat) : (sliceBounds lo hi none n).1 = ((HT.sIx n 0 lo : Nat) : Int) /\ (sliceBounds lo hi none n).2.1 = ((HT.sIx n n hi : Nat) : Int) /\ (sliceBounds lo hi none n).2.2 = 1 := by
 refine ⟨?_,?_,rfl⟩
 . cases lo with
   | none => simp [sliceBounds,HT.sIx]
   | some i =>
     simp only [sliceBounds,HT.sIx,Option.getD_none,show (1 : Int) > 0 by decide,if_true]
     by_cases h : i < 0
     . simp only [h,if_true] <;> omega
     . simp only [h,if_false] <;> omega
 . cases hi with
   | none => simp [sliceBounds,HT.sIx]
   | some i =>
     simp only [sliceBounds,HT.sIx,Option.getD_none,show (1 : Int) > 0 by decide,if_true]
     by_cases h : i < 0
     . simp only [h,if_true] <;> omega
     . simp only [h,if_false] <;> omega
theorem slicePick_cut (its : List Value) (lo hi : Option Int) : slicePick its.toArray lo hi none = ((its.drop (HT.sIx its.length 0 lo)).take (HT.sIx its.length its.length hi - HT.sIx its.length 0 lo)).toArray := by
 obtain ⟨h1,h2,h3⟩ := slice_bounds lo hi its.toArray.size
 unfold slicePick
 rw [h1,h2,h3]
 simp only [sliceRange_one,pick_run,List.size_toArray] <;> rfl
def rSlL (K : PySem.W.Frag) : V -> Option Int -> Option Int -> Hp -> VK -> Prop := fun x lo hi H Q => ∃ a xs,x = .ref a /\ SqL K H a xs /\ ∀ p,H p = none -> Q (.ref p) (upd H p (.lst (cutV xs lo hi)))
theorem sl_list : SlR X (rSlL X.K) := by
 intro pins s σ H x v vl vu lo hi sl Q I rx hs pl pu h
 obtain ⟨a,xs,rfl,hx,q⟩ := h
 cases rx
 obtain ⟨its,r,ht,hz⟩ := I.list hx
 have hlen := r.length
 refine ⟨"list",_,slot_list_getitem.lookup,ht.isList.typeIs,?_⟩
 refine wpAny_getItem_list_slice ht.isList hs pl pu .none (by simp) ?_ (by rw [List.size_toArray] <;> omega)
 rw [slicePick_cut,<- hlen]
 refine ⟨.ref s.heap.objs.size,_,I.laid (t' := s.toks) (o := .lst (cutV xs lo hi)) (fun b ob q => Heap.get?_push_of_some _ q) (Nat.le_refl _) ?_,rfl,q _ (I.hok.fresh (Nat.le_refl _))⟩
 exact ⟨Nat.le_trans (cutV_length xs lo hi) hz,_,0,(r.drop (HT.sIx xs.length 0 lo)).take (HT.sIx xs.length xs.length hi - HT.sIx xs.length 0 lo),Heap.get?_push_size _ rfl⟩
theorem call_len_seq : CallR X (.builtin "len") (fun xs H Q => ∃ p ys,xs = [.ref p] /\ (SqL X.K H p ys ∨ SqT X.K H p ys) /\ Q (.int ys.length) H) := by
 intro pins s σ H xs us Q I r h
 obtain ⟨p,ys,rfl,hq,q⟩ := h
 obtain ⟨u,rfl,rx⟩ := vals1 r
 cases rx
 have hn := line63
 rcases hq with hq | hq
 . obtain ⟨its,r',pl,hz⟩ := I.list hq
   have hlen := r'.length
   exact Calls.call_len_list pl.isList (by simp only [List.size_toArray] <;> omega) ⟨.int ys.length,H,I.tok _,⟨s.toks + 1,by rw [List.size_toArray,hlen]⟩,q⟩
 . obtain ⟨its,r',pl,hz⟩ := I.tuple hq
   have hlen := r'.length
   exact len_tuple pl (by simp only [List.size_toArray] <;> omega) ⟨.int ys.length,H,I.tok _,⟨s.toks + 1,by rw [List.size_toArray,hlen]⟩,q⟩
theorem call_len_str : CallR X (.builtin "len") (fun xs H Q => ∃ z,xs = [.str z] /\ z.length <= sizeLine /\ Q (.int z.length) H) := by
 intro pins s σ H xs us Q I r h
 obtain ⟨z,rfl,hz,q⟩ := h
 obtain ⟨u,rfl,t,rfl⟩ := vals1 r
 have hn := line63
 exact len_str (by omega) ⟨.int z.length,H,I.tok _,⟨_,rfl⟩,q⟩
theorem call_tuple_of : CallR X (.type "tuple") (fun xs H Q => ∃ p ys,xs = [.ref p] /\ ((SqL X.K H p ys /\ ∀ l,H l = none -> Q (.ref l) (upd H l (.tup ys))) ∨ (SqT X.K H p ys /\ Q (.ref p) H))) := by
 intro pins s σ H xs us Q I r h
 obtain ⟨p,ys,rfl,h⟩ := h
 obtain ⟨u,rfl,rx⟩ := vals1 r
 cases rx
 rcases h with ⟨hq,q⟩ | ⟨hq,q⟩
 . obtain ⟨its,r',pl,hz⟩ := I.list hq
   have hlen := r'.length
   refine call_tuple_list pl.isList (fun h' kp => ?_) (by simp only [List.size_toArray] <;> omega)
   have I1 : Inv X pins σ H { s with heap := h' } := I.kept (t' := s.toks) kp
   have I2 : Inv X pins σ (upd H h'.objs.size (.tup ys)) { s with heap := h'.push { cls := .type "tuple",data := .seq its.toArray } } :=
     I1.laid (t' := s.toks) (fun b o e => Heap.get?_push_of_some _ e) (Nat.le_refl _) (show ObjOk X.prog X.w _ _ _ (.tup ys) from ⟨hz,its,r',IsTup.new _ _⟩)
   exact ⟨.ref h'.objs.size,_,I2,rfl,q _ (I1.hok.fresh (Nat.le_refl _))⟩
 . obtain ⟨its,r',pl,hz⟩ := I.tuple hq
   exact call_tuple_same pl ⟨.ref p,H,I,rfl,q⟩
def tyV (K : PySem.W.Frag) (T : String) (x : V) (H : Hp) : Prop := match x with
 | .str _ => T = "str"
 | .int _ => T = "int"
 | .ref p => (T = "list" /\ ∃ xs,SqL K H p xs) ∨ (T = "tuple" /\ ∃ o,K.lookup p = some o /\ o.cls = .type "tuple" /\ o.dict = none) ∨
     (T = "dict" /\ ((∃ kvs,H p = some (.dK kvs)) ∨ ∃ kvs,H p = some (.dT kvs))) ∨ (T = "set" /\ ∃ S n,H p = some (.set S n))
 | _ => False
theorem tyV_is {pins : List (Addr × Obj)} {σ : St} {H : Hp} {s : Shared} {T : String} {x : V} {v : Value} (I : Inv X pins σ H s) (r : RelV x v) (ty : tyV X.K T x H) :
   s.TypeIs v T /\ ∀ a,v = .ref a -> ∃ ob,s.heap.get? a = some ob /\ ob.dict = none := by
 cases x with
 | str z =>
   obtain ⟨t,rfl⟩ := r
   cases (show T = "str" from ty)
   exact ⟨typeIs_str s z t,fun _ e => nomatch e⟩
 | int i =>
   obtain ⟨t,rfl⟩ := r
   cases (show T = "int" from ty)
   exact ⟨typeIs_int s i t,fun _ e => nomatch e⟩
 | ref p =>
   cases r
   rcases ty with ⟨rfl,xs,hq⟩ | ⟨rfl,o,hk,hc,hd⟩ | ⟨rfl,hk⟩ | ⟨rfl,S,n,hk⟩
   . obtain ⟨its,_,pl,_⟩ := I.list hq
     refine ⟨pl.isList.typeIs,fun a e => ?_⟩
     cases e
     obtain ⟨o,n,e,c,hd,_⟩ := pl
     exact ⟨o,e,hd⟩
   . refine ⟨⟨o,I.kIn p o hk,hc⟩,fun a e => ?_⟩
     cases e
     exact ⟨o,I.kIn _ o hk,hd⟩
   . have z : ∃ o,s.heap.get? p = some o /\ o.ExactDict := by
       rcases hk with ⟨kvs,hk⟩ | ⟨kvs,hk⟩
       . obtain ⟨_,_,_,_,o,_,_,e,ex,_⟩ := I.hok p _ hk
         exact ⟨o,e,ex⟩
       . obtain ⟨_,_,_,_,o,_,_,e,ex,_⟩ := I.hok p _ hk
         exact ⟨o,e,ex⟩
     obtain ⟨o,e,ex⟩ := z
     refine ⟨⟨o,e,ex.1⟩,fun a e2 => ?_⟩
     cases e2
     exact ⟨o,e,ex.2.1⟩
   . obtain ⟨o,_,_,_,e,ex,_⟩ := I.hok p _ hk
     refine ⟨⟨o,e,ex.1⟩,fun a e2 => ?_⟩
     cases e2
     exact ⟨o,e,ex.2.1⟩
 | _ => exact False.elim ty
def tBM (K : PySem.W.Frag) (T : String) (r : V -> List V -> Hp -> VK -> Prop) (to : TE) (t : TA) : TE := fun σ H Q => to σ H fun x H1 => tyV K T x H1 /\ t σ H1 fun xs H2 => r x xs H2 Q
variable {o e : Expr} {es : List Expr} {to : TE} {t : TA} {name : Str} {apos cpos : Pos} {T id : String} {r : V -> List V -> Hp -> VK -> Prop}
theorem pe_bm (pa : PlainAttrs T) (slot : Slot T name id) (hty : typeOf (.builtin id) = pure (.type "method_descriptor")) (hm : MtR X id r) (ho : PE X o to) (ha : PA X (e :: es) t)
   (hbase : attributeBase o name X.env (eval o X.env) = eval o X.env := by rfl)
   (hfew : ((backTo cpos (starEach (e :: es) X.env)).all (fun x => !x.1) && (backToKw cpos (keywordEach [] X.env)).all (fun x => x.1.isSome)
     && decide ((e :: es).length + ([] : List Keyword).length + (if ([] : List Keyword).isEmpty then 0 else 1) < 30)) = true := by rfl)
   (hline : (apos.endLine == cpos.line) = true := by rfl) (hs : starEach (e :: es) X.env = (false,eval e X.env) :: starEach es X.env := by rfl) (hplain : (backTo cpos (starEach es X.env)).any (·.1) = false := by rfl) :
   PE X (.Call (.Attribute o name apos) (e :: es) [] cpos) (tBM X.K T r to t) := by
 intro pins s σ H Q I h
 refine wpAny_Call_method_late hbase hfew hline rfl (thn (ho pins s σ H _ I h) fun v s1 ⟨x,H1,I1,r1,ty,q1⟩ => ?_)
 obtain ⟨h1,h2⟩ := tyV_is I1 r1 ty
 refine ⟨T,id,pa,slot,hty,h1,h2,?_⟩
 have hA := ha cpos pins s1 σ H1 _ I1 q1
 rw [hs] at hA ⊢
 refine Calls.callWith_builtin (by show (false || (backTo cpos (starEach es X.env)).any (·.1)) = false; rw [hplain] <;> rfl) (Calls.evalArgs_plain ?_)
 exact thn hA fun us s2 ⟨vs,H2,I2,r2,q2⟩ => hm pins s2 σ H2 x vs v us Q I2 r1 r2 q2
end
end L2
namespace L2
open PySem PySem.Spec PyProof.Rows
def MtM (X : Cx) (id : String) (r : V -> List V -> Hp -> VK -> Prop) : Prop :=
 ∀ (pins : List (Addr × Obj)) (s : Shared) (σ : St) (H : Hp) (x : V) (xs : List V) (v : Value) (us : List Value) (Q : VK),Inv X pins σ H s -> RelV x v -> Vals xs us -> r x xs H Q ->
   wpAny (model X.prog X.w) X.A (call (.builtin id) (v :: us)) (EP X pins σ Q) X.xe s
theorem Vals.one : ∀ {x : V} {us : List Value},Vals [x] us -> ∃ u,us = [u] /\ RelV x u
 | _,_,.cons r .nil => ⟨_,rfl,r⟩
section
variable {X : Cx} {pins : List (Addr × Obj)} {σ : St} {H : Hp} {s : Shared} {l b : Addr} {xs ys zs : List V}
theorem Inv.lset {its its' : List Value} {n : Nat} {f : Array Value -> Array Value} {t' : Nat} (I : Inv X pins σ H s) (hH : H l = some (.lst xs))
   (e : s.heap.get? l = some { cls := .type "list",data := .seq its.toArray n }) (hf : f its.toArray = its'.toArray) (hv : Vals ys its') (hz : ys.length <= sizeLine) :
   Inv X pins σ (upd H l (.lst ys)) { s with heap := s.heap.update l (Obj.mapSeq f),toks := t' } := by
 have q := PySem.IsL.update e f
 rw [hf] at q
 refine I.write (x := l) (e := l) (by rw [hH]; exact trivial) (.inl rfl) (fun b' u hb hu => (Heap.get?_update_other s.heap (Obj.mapSeq f) (Ne.symm hb)).trans hu) ⟨_,q⟩ ?_
 exact ⟨hz,its',_,hv,q⟩
theorem Inv.lnew {its : List Value} {t' : Nat} (I : Inv X pins σ H s) (hv : Vals ys its) (hz : ys.length <= sizeLine) :
   Inv X pins σ (upd H s.heap.objs.size (.lst ys)) { s with heap := s.heap.push { cls := .type "list",data := .seq its.toArray },toks := t' } :=
 I.laid (fun _ _ q => Heap.get?_push_of_some _ q) (Nat.le_refl _) ⟨hz,its,0,hv,Heap.get?_push_size _ rfl⟩
theorem Inv.fresh (I : Inv X pins σ H s) : H s.heap.objs.size = none := I.hok.fresh (Nat.le_refl _)
theorem Inv.lstM (I : Inv X pins σ H s) (hH : H l = some (.lst xs)) : xs.length <= sizeLine /\ ∃ (its : List Value) (n : Nat),Vals xs its /\ xs.length = its.length /\ s.heap.get? l = some { cls := .type "list",data := .seq its.toArray n } := by
 obtain ⟨z,its,n,r,e⟩ := I.hok l _ hH
 exact ⟨z,its,n,r,r.length,e⟩
theorem notLongL {n : Nat} (h : n <= sizeLine) : Builtin.List.listTooLong n = false := by
 unfold Builtin.List.listTooLong
 exact decide_eq_false (by omega)
end
section
variable {X : Cx}
def rAppend : V -> List V -> Hp -> VK -> Prop := fun x vs H Q => ∃ l xs y,x = .ref l /\ vs = [y] /\ H l = some (.lst xs) /\ xs.length < sizeLine /\ Q .non (upd H l (.lst (xs ++ [y])))
theorem mt_append : MtM X "list.append" rAppend := by
 intro pins s σ H x vs v us Q I rx rv h
 obtain ⟨l,xs,y,rfl,rfl,hH,hz,q⟩ := h
 cases rx
 obtain ⟨u,rfl,ru⟩ := rv.one
 obtain ⟨z,its,n,r,hl,e⟩ := I.lstM hH
 refine call_meets F.slot_list_append ⟨_,e,rfl⟩ F.entry_list_append (F.args_list_append_2 _ _) (PySem.list_append l its.toArray n u (by rw [List.size_toArray]; omega)) ⟨e,?_⟩
 refine ⟨.non,_,I.lset (its' := its ++ [u]) hH e (by simp) (r.append (.cons ru .nil)) ?_,rfl,q⟩
 rw [List.length_append,List.length_singleton]
 omega
def rExtend : V -> List V -> Hp -> VK -> Prop := fun x vs H Q => ∃ l b xs zs,x = .ref l /\ vs = [.ref b] /\ H l = some (.lst xs) /\ H b = some (.lst zs) /\ xs.length + zs.length <= sizeLine /\ Q .non (upd H l (.lst (xs ++ zs)))
theorem mt_extend : MtM X "list.extend" rExtend := by
 intro pins s σ H x vs v us Q I rx rv h
 obtain ⟨l,b,xs,zs,rfl,rfl,hH,hB,hz,q⟩ := h
 cases rx
 obtain ⟨u,rfl,ru⟩ := rv.one
 cases ru
 obtain ⟨z,its,n,r,hl,e⟩ := I.lstM hH
 obtain ⟨z2,its2,n2,r2,hl2,e2⟩ := I.lstM hB
 have hsz : its.toArray.size + its2.toArray.size <= sizeLine := by rw [List.size_toArray,List.size_toArray]; omega
 have hlong : ¬ (!its.toArray.isEmpty && Builtin.List.listTooLong (its.toArray.size + its2.toArray.size)) = true := by
   rw [notLongL hsz,Bool.and_false]
   exact Bool.false_ne_true
 refine call_meets F.slot_list_extend ⟨_,e,rfl⟩ F.entry_list_extend (F.args_list_extend_2 _ _)
   (AutoSeq1.list_extend_list_list_0 l its.toArray n b its2.toArray n2 hlong (by rw [List.size_toArray]; omega) (by omega)) ⟨e,e2,?_⟩
 refine ⟨.non,_,I.lset (its' := its ++ its2) hH e (by simp) (r.append r2) ?_,rfl,q⟩
 rw [List.length_append]
 omega
def rCat : R2 := fun x y H Q => ∃ l b xs zs,x = .ref l /\ y = .ref b /\ H l = some (.lst xs) /\ H b = some (.lst zs) /\ xs.length + zs.length <= sizeLine /\ ∀ p,H p = none -> Q (.ref p) (upd H p (.lst (xs ++ zs)))
theorem op_cat : OpR X (binaryOp .Add) rCat := by
 intro pins s σ H x y v u Q I rx ry h
 obtain ⟨l,b,xs,zs,rfl,rfl,hH,hB,hz,q⟩ := h
 cases rx
 cases ry
 obtain ⟨z,its,n,r,hl,e⟩ := I.lstM hH
 obtain ⟨z2,its2,n2,r2,hl2,e2⟩ := I.lstM hB
 refine PySem.P.add_list e e2 ?_ (by rw [List.size_toArray,List.size_toArray]; omega)
 have ea : its.toArray ++ its2.toArray = (its ++ its2).toArray := by simp
 rw [ea]
 exact ⟨.ref _,_,I.lnew (t' := s.toks) (r.append r2) (by rw [List.length_append]; omega),rfl,q _ I.fresh⟩
end
section
variable {prog : Program} {w : World} {A : Around} {E : Value -> Shared -> Prop} {s : Shared}
end
section
variable {X : Cx}
end
end L2
namespace L2
open PySem PySem.Spec PyProof.Rows
section
variable {κ : Type} [DecidableEq κ]
def valV (kvs : List (κ × V)) (k : κ) : Option V := (kvs.find? fun kv => decide (kv.1 = k)).map (·.2)
def putK (kvs : List (κ × V)) (k : κ) (v : V) : List (κ × V) :=
 if (kvs.any fun kv => decide (kv.1 = k)) = true then kvs.map (fun kv => if kv.1 = k then (kv.1,v) else kv) else kvs ++ [(k,v)]
theorem valV_pos {p : κ × V} {r : List (κ × V)} {k : κ} (e : p.1 = k) : valV (p :: r) k = some p.2 := by simp [valV,List.find?_cons,e]
theorem valV_neg {p : κ × V} {r : List (κ × V)} {k : κ} (e : ¬ p.1 = k) : valV (p :: r) k = valV r k := by simp [valV,List.find?_cons,e]
theorem valV_any (k : κ) : ∀ kvs : List (κ × V),(kvs.any fun kv => decide (kv.1 = k)) = (valV kvs k).isSome
 | [] => rfl
 | p :: r => by
   rw [List.any_cons]
   by_cases e : p.1 = k
   . simp only [valV_pos e,decide_eq_true e,Bool.true_or,Option.isSome_some]
   . rw [valV_neg e,decide_eq_false e,Bool.false_or]; exact valV_any k r
theorem valV_map (k j : κ) (y : V) : ∀ kvs : List (κ × V),valV (kvs.map fun kv => if kv.1 = k then (kv.1,y) else kv) j = (valV kvs j).map fun x => if j = k then y else x
 | [] => rfl
 | p :: r => by
   have ih := valV_map k j y r
   rw [List.map_cons]
   by_cases h : p.1 = k
   . rw [if_pos h]
     by_cases e : p.1 = j
     . rw [valV_pos (p := (p.1,y)) e,valV_pos e,Option.map_some,if_pos (e.symm.trans h)]
     . rw [valV_neg (p := (p.1,y)) e,valV_neg e,ih]
   . rw [if_neg h]
     by_cases e : p.1 = j
     . rw [valV_pos (p := p) e,valV_pos e,Option.map_some,if_neg (fun z => h (e.trans z))]
     . rw [valV_neg (p := p) e,valV_neg e,ih]
theorem valV_snoc (k j : κ) (y : V) : ∀ kvs : List (κ × V),valV kvs k = none -> valV (kvs ++ [(k,y)]) j = if j = k then some y else valV kvs j
 | [],_ => by
   by_cases e : k = j
   . rw [if_pos e.symm]; exact valV_pos (p := (k,y)) e
   . rw [if_neg (fun z => e z.symm)]; exact valV_neg (p := (k,y)) e
 | p :: r,hn => by
   rw [List.cons_append]
   have hk : ¬ p.1 = k := fun z => by rw [valV_pos z] at hn; cases hn
   rw [valV_neg hk] at hn
   have ih := valV_snoc k j y r hn
   by_cases e : p.1 = j
   . rw [valV_pos e,valV_pos e,if_neg (fun z => hk (e.trans z))]
   . rw [valV_neg e,valV_neg e,ih]
theorem valV_put (kvs : List (κ × V)) (k j : κ) (y : V) : valV (putK kvs k y) j = if j = k then some y else valV kvs j := by
 unfold putK
 by_cases a : (kvs.any fun kv => decide (kv.1 = k)) = true
 . rw [if_pos a,valV_map]
   rw [valV_any] at a
   by_cases e : j = k
   . obtain ⟨x,hx⟩ := Option.isSome_iff_exists.mp a
     rw [if_pos e,e,hx,Option.map_some,if_pos rfl]
   . rw [if_neg e]
     cases valV kvs j with
     | none => rfl
     | some x => rw [Option.map_some,if_neg e]
 . rw [if_neg a]
   refine valV_snoc k j y kvs ?_
   rw [valV_any] at a
   cases q : valV kvs k with
   | none => rfl
   | some x => rw [q] at a; exact (a rfl).elim
theorem length_putK (kvs : List (κ × V)) (k : κ) (v : V) : (putK kvs k v).length <= kvs.length + 1 := by
 unfold putK
 split
 . rw [List.length_map]; omega
 . rw [List.length_append,List.length_cons,List.length_nil]; omega
theorem RelO.isSome_eq {o : Option V} {u : Option Value} (r : RelO o u) : o.isSome = u.isSome := by
 cases o with
 | none => cases u with
   | none => rfl
   | some _ => exact (show False from r).elim
 | some _ => cases u with
   | none => exact (show False from r).elim
   | some _ => rfl
theorem RelO.getD {o : Option V} {u : Option Value} {d : V} {d' : Value} (r : RelO o u) (rd : RelV d d') : RelV (o.getD d) (u.getD d') := by
 cases o with
 | none => cases u with
   | none => exact rd
   | some _ => exact (show False from r).elim
 | some _ => cases u with
   | none => exact (show False from r).elim
   | some _ => exact r
theorem KV.val {kvs : List (κ × V)} {vs : List (κ × Value)} (r : KV kvs vs) (k : κ) : RelO (valV kvs k) (valueAt vs k) := by
 unfold KV at r
 induction r with
 | nil => exact True.intro
 | @cons p q ps qs h t ih =>
   obtain ⟨h1,h2⟩ := h
   by_cases e : p.1 = k
   . have e' : q.1 = k := h1.symm.trans e
     have b : valueAt (q :: qs) k = some q.2 := by simp [valueAt,List.find?_cons,e']
     rw [valV_pos e,b]; exact h2
   . have e' : ¬ q.1 = k := fun z => e (h1.trans z)
     have b : valueAt (q :: qs) k = valueAt qs k := by simp [valueAt,List.find?_cons,e']
     rw [valV_neg e,b]; exact ih
theorem KV.any {kvs : List (κ × V)} {vs : List (κ × Value)} (r : KV kvs vs) (k : κ) : (kvs.any fun kv => decide (kv.1 = k)) = vs.any fun kv => decide (kv.1 = k) := by
 unfold KV at r
 induction r with
 | nil => rfl
 | cons h t ih => rw [List.any_cons,List.any_cons,ih,h.1]
theorem KV.repl {kvs : List (κ × V)} {vs : List (κ × Value)} (r : KV kvs vs) (k : κ) {y : V} {u : Value} (ry : RelV y u) :
   KV (kvs.map fun kv => if kv.1 = k then (kv.1,y) else kv) (vs.map fun kv => if kv.1 = k then (kv.1,u) else kv) := by
 unfold KV at r ⊢
 induction r with
 | nil => exact .nil
 | @cons p q ps qs h t ih =>
   rw [List.map_cons,List.map_cons]
   refine .cons ?_ ih
   obtain ⟨h1,h2⟩ := h
   by_cases e : p.1 = k
   . rw [if_pos e,if_pos (h1.symm.trans e)]; exact ⟨h1,ry⟩
   . rw [if_neg e,if_neg (fun z => e (h1.trans z))]; exact ⟨h1,h2⟩
theorem KV.put {kvs : List (κ × V)} {vs : List (κ × Value)} (r : KV kvs vs) (k : κ) {y : V} {u : Value} (ry : RelV y u) : KV (putK kvs k y) (stored vs k u) := by
 unfold putK stored
 rw [r.any k]
 by_cases e : (vs.any fun kv => decide (kv.1 = k)) = true
 . rw [if_pos e,if_pos e]; exact r.repl k ry
 . rw [if_neg e,if_neg e]; exact Paired.snoc r ⟨rfl,ry⟩
theorem KV.keys {kvs : List (κ × V)} {vs : List (κ × Value)} (r : KV kvs vs) : kvs.map (·.1) = vs.map (·.1) := by
 unfold KV at r
 induction r with
 | nil => rfl
 | cons h t ih => rw [List.map_cons,List.map_cons,ih,h.1]
theorem KV.length {kvs : List (κ × V)} {vs : List (κ × Value)} (r : KV kvs vs) : kvs.length = vs.length := Paired.length r
end
theorem kV_is {P : Program} {w : World} {k : Key} {u : Value} (r : RelV (kV k) u) : (mixKind P w).is k u = true := by
 cases k with
 | inl i => cases i with
   | none => cases (show u = Value.none from r); exact mixKind_none P w
   | some i => obtain ⟨t,e⟩ := (show ∃ t,u = Value.int i t from r); subst e; exact mixKind_int P w i t
 | inr x => obtain ⟨t,e⟩ := (show ∃ t,u = Value.str x t from r); subst e; exact mixKind_str P w x t
theorem items_are {P : Program} {w : World} : ∀ {ks : List Key} {us : List Value},Vals (ks.map kV) us -> ItemsAre (mixKind P w) ks us
 | [],_,r => by rw [List.map_nil] at r; cases r; exact .nil
 | k :: ks,_,r => by
   rw [List.map_cons] at r
   cases r with
   | cons h t => exact .cons (kV_is h) (items_are t)
abbrev KT (H : Hp) : List (List Key × V) -> List (List Key × Addr × Value) -> Prop := Paired fun p q => p.1 = q.1 /\ H q.2.1 = some (.tup (p.1.map kV)) /\ RelV p.2 q.2.2
theorem KT.val {H : Hp} {kvs : List (List Key × V)} {xs : List (List Key × Addr × Value)} (r : KT H kvs xs) (k : List Key) : RelO (valV kvs k) ((atKey xs k).map (·.2)) := by
 induction r with
 | nil => exact True.intro
 | @cons p q ps qs h t ih =>
   obtain ⟨h1,_,h2⟩ := h
   by_cases e : p.1 = k
   . have e' : q.1 = k := h1.symm.trans e
     have b : atKey (q :: qs) k = some q.2 := by simp [atKey,List.find?_cons,e']
     rw [valV_pos e,b]; exact h2
   . have e' : ¬ q.1 = k := fun z => e (h1.trans z)
     have b : atKey (q :: qs) k = atKey qs k := by simp [atKey,List.find?_cons,e']
     rw [valV_neg e,b]; exact ih
theorem KT.repl {H : Hp} {kvs : List (List Key × V)} {xs : List (List Key × Addr × Value)} (r : KT H kvs xs) (k : List Key) {y : V} {u : Value} (ry : RelV y u) :
   KT H (kvs.map fun kv => if kv.1 = k then (kv.1,y) else kv) (xs.map (putAt k u)) := by
 induction r with
 | nil => exact .nil
 | @cons p q ps qs h t ih =>
   rw [List.map_cons,List.map_cons]
   refine .cons ?_ ih
   obtain ⟨h1,h2,h3⟩ := h
   unfold putAt
   by_cases e : p.1 = k
   . rw [if_pos e,if_pos (h1.symm.trans e)]; exact ⟨h1,h2,ry⟩
   . rw [if_neg e,if_neg (fun z => e (h1.trans z))]; exact ⟨h1,h2,h3⟩
theorem KT.put {H : Hp} {kvs : List (List Key × V)} {xs : List (List Key × Addr × Value)} (r : KT H kvs xs) (k : List Key) {b : Addr} {y : V} {u : Value} (hb : H b = some (.tup (k.map kV))) (ry : RelV y u) :
   KT H (putK kvs k y) (storedH xs k b u) := by
 have e : (kvs.any fun kv => decide (kv.1 = k)) = (atKey xs k).isSome := by
   rw [valV_any,(r.val k).isSome_eq,Option.isSome_map]
 unfold putK storedH
 rw [e]
 by_cases q : (atKey xs k).isSome = true
 . rw [if_pos q,if_pos q]; exact r.repl k ry
 . rw [if_neg q,if_neg q]; exact Paired.snoc r ⟨rfl,hb,ry⟩
theorem KT.keeps {H H' : Hp} {kvs : List (List Key × V)} {xs : List (List Key × Addr × Value)} (r : KT H kvs xs) (ht : ∀ b ys,H b = some (.tup ys) -> H' b = some (.tup ys)) : KT H' kvs xs :=
 Paired.mapP r fun _ _ z => ⟨z.1,ht _ _ z.2.1,z.2.2⟩
section
variable {P : Program} {w : World} {H : Hp} {h : Heap} {a : Addr}
theorem rd_of {u : HO} (ok : HOk P w H h) (e : Rd H a u) : ObjOk P w H h a u := e.ok ok
theorem dk_rd {kvs : List (Key × V)} (ok : HOk P w H h) (e : Rd H a (.dK kvs)) : kvs.length <= sizeLine /\ (a == sysModules) = false /\ ∃ vs,KV kvs vs /\ h.DictOf (mixKind P w) a vs :=
 show ObjOk P w H h a (.dK kvs) from rd_of ok e
theorem dk_of {kvs : List (Key × V)} (ok : HOk P w H h) (e : H a = some (.dK kvs)) : kvs.length <= sizeLine /\ (a == sysModules) = false /\ ∃ vs,KV kvs vs /\ h.DictOf (mixKind P w) a vs := dk_rd ok (.inl e)
theorem key_of {ks : List Key} (ok : HOk P w H h) (e : H a = some (.tup (ks.map kV))) : (tupleKind (mixKind P w)).is h ks a := by
 obtain ⟨_,its,r,o,h1,h2,n,h3⟩ := (show ObjOk P w H h a (.tup (ks.map kV)) from ok a _ e)
 exact ⟨o,its.toArray,n,h1,h2,h3,by simpa using items_are r⟩
theorem dt_rd {kvs : List (List Key × V)} (ok : HOk P w H h) (e : Rd H a (.dT kvs)) : kvs.length <= sizeLine /\ (a == sysModules) = false /\
   ∃ xs,KT H kvs xs /\ h.DictOfH (tupleKind (mixKind P w)) a xs := by
 obtain ⟨z,y,xs,r,o,es,ep,h1,h2,h3,h4,h5⟩ := (show ObjOk P w H h a (.dT kvs) from rd_of ok e)
 refine ⟨z,y,xs,r,o,es,ep,h1,h2,h3,h4,fun x hx => ?_,h5⟩
 have all : ∀ {l : List (List Key × V)} {m : List (List Key × Addr × Value)},KT H l m -> ∀ x ∈ m,(tupleKind (mixKind P w)).is h x.1 x.2.1 := by
   intro l m q
   induction q with
   | nil => intro x hx; exact nomatch hx
   | @cons p q ps qs hq t ih =>
     intro x hx
     rcases List.mem_cons.mp hx with e | hx
     . subst e
       exact key_of ok (by rw [<- hq.1]; exact hq.2.1)
     . exact ih x hx
 exact all r x hx
theorem dt_of {kvs : List (List Key × V)} (ok : HOk P w H h) (e : H a = some (.dT kvs)) : kvs.length <= sizeLine /\ (a == sysModules) = false /\
   ∃ xs,KT H kvs xs /\ h.DictOfH (tupleKind (mixKind P w)) a xs := dt_rd ok (.inl e)
end
def DGet (H : Hp) (a : Addr) (y : V) (r : Option V) : Prop :=
 (∃ kvs k,Rd H a (.dK kvs) /\ y = kV k /\ r = valV kvs k) ∨ ∃ kvs k b,Rd H a (.dT kvs) /\ y = .ref b /\ H b = some (.tup (k.map kV)) /\ r = valV kvs k
def DPut (H : Hp) (a : Addr) (y v : V) (H' : Hp) : Prop :=
 (∃ kvs k,H a = some (.dK kvs) /\ y = kV k /\ kvs.length < sizeLine /\ H' = upd H a (.dK (putK kvs k v))) ∨
 ∃ kvs k b,H a = some (.dT kvs) /\ y = .ref b /\ H b = some (.tup (k.map kV)) /\ kvs.length < sizeLine /\ H' = upd H a (.dT (putK kvs k v))
theorem DGet.k {H : Hp} {a : Addr} {kvs : List (Key × V)} {k : Key} (e : H a = some (.dK kvs)) : DGet H a (kV k) (valV kvs k) := .inl ⟨kvs,k,.inl e,rfl,rfl⟩
theorem DGet.t {H : Hp} {a b : Addr} {kvs : List (List Key × V)} {k : List Key} (e : H a = some (.dT kvs)) (eb : H b = some (.tup (k.map kV))) : DGet H a (.ref b) (valV kvs k) := .inr ⟨kvs,k,b,.inl e,rfl,eb,rfl⟩
theorem DPut.k {H : Hp} {a : Addr} {kvs : List (Key × V)} {k : Key} {v : V} (e : H a = some (.dK kvs)) (hl : kvs.length < sizeLine) : DPut H a (kV k) v (upd H a (.dK (putK kvs k v))) := .inl ⟨kvs,k,e,rfl,hl,rfl⟩
theorem DPut.t {H : Hp} {a b : Addr} {kvs : List (List Key × V)} {k : List Key} {v : V} (e : H a = some (.dT kvs)) (eb : H b = some (.tup (k.map kV))) (hl : kvs.length < sizeLine) :
   DPut H a (.ref b) v (upd H a (.dT (putK kvs k v))) := .inr ⟨kvs,k,b,e,rfl,eb,hl,rfl⟩
section
variable {X : Cx} {pins : List (Addr × Obj)} {σ : St} {H : Hp} {s : Shared} {a : Addr} {y v : V} {u r : Value} {o : Option V} {A : Around} {E : Value -> Shared -> Prop}
theorem Inv.big (I : Inv X pins σ H s) : sysModules < s.heap.objs.size := by
 have h : mainGlobals < s.heap.objs.size := (I.mod.glob.keeps I.bk).lt
 exact Nat.lt_trans (by decide) h
theorem d_getItem {Q : Value -> Shared -> Prop} (hu : A.units + 1 < cLine) (I : Inv X pins σ H s) (g : DGet H a y (some v)) (ry : RelV y u) (h : ∀ w' s',Inv X pins σ H s' -> RelV v w' -> Q w' s') :
   wpAny (model X.prog X.w) A (getItem (.ref a) u) Q E s := by
 rcases g with ⟨kvs,k,e,ey,l⟩ | ⟨kvs,k,b,e,ey,eb,l⟩
 . subst ey
   obtain ⟨z,hd,vs,rel,dd⟩ := dk_rd I.hok e
   obtain ⟨w',hw,rw'⟩ := RelO.some_of (v := v) (o := valueAt vs k) (by rw [l]; exact rel.val k)
   exact wpAny_getItem_of (kV_is ry) dd.mapOf hw (h w' _ (I.tok _) rw')
 . subst ey
   cases (show u = Value.ref b from ry)
   obtain ⟨z,hd,xs,rel,dd⟩ := dt_rd I.hok e
   obtain ⟨w',hw,rw'⟩ := RelO.some_of (v := v) (o := (atKey xs k).map (·.2)) (by rw [l]; exact rel.val k)
   obtain ⟨p,hp,hp2⟩ := Option.map_eq_some_iff.mp hw
   refine wpAny_getItem_heap (tupleKind_room_in1 hu) (key_of I.hok eb) dd hp ?_
   rw [hp2]
   exact h w' _ (I.tok _) rw'
theorem d_in {Q : Value -> Shared -> Prop} (hu : A.units + 1 < cLine) (I : Inv X pins σ H s) (g : DGet H a y o) (ry : RelV y u) (h : ∀ s',Inv X pins σ H s' -> Q (.bool o.isSome) s') :
   wpAny (model X.prog X.w) A (compareOp .In u (.ref a)) Q E s := by
 rcases g with ⟨kvs,k,e,ey,l⟩ | ⟨kvs,k,b,e,ey,eb,l⟩
 . subst ey
   obtain ⟨z,hd,vs,rel,dd⟩ := dk_rd I.hok e
   refine wpAny_in_of (kV_is ry) hd dd.mapOf ?_
   rw [<- (rel.val k).isSome_eq,<- l]
   exact h _ (I.tok _)
 . subst ey
   cases (show u = Value.ref b from ry)
   obtain ⟨z,hd,xs,rel,dd⟩ := dt_rd I.hok e
   refine wpAny_in_heap (tupleKind_room_in1 hu) (key_of I.hok eb) hd dd ?_
   have q := (rel.val k).isSome_eq
   rw [Option.isSome_map] at q
   rw [<- q,<- l]
   exact h _ (I.tok _)
theorem d_write {h' : Heap} {t' : Nat} {ob : HO} (I : Inv X pins σ H s) (mu : Mut (H a)) (hs : Heap.SameBut a s.heap h') (he : ∃ q,h'.get? a = some q) (new : ObjOk X.prog X.w (upd H a ob) h' a ob) :
   Inv X pins σ (upd H a ob) { s with heap := h',toks := t' } :=
 I.write (x := a) (e := a) mu (.inl rfl) (fun b q hb z => (hs.2 b hb).trans z) he new
theorem dk_new {P : Program} {w : World} {H' : Hp} {h' : Heap} {kvs : List (Key × V)} {vs : List (Key × Value)} (z : kvs.length <= sizeLine) (hd : (a == sysModules) = false) (rel : KV kvs vs) (dd : h'.DictOf (mixKind P w) a vs) :
   ObjOk P w H' h' a (.dK kvs) := ⟨z,hd,vs,rel,dd⟩
theorem d_setItem {H' : Hp} {Q : Unit -> Shared -> Prop} (hu : A.units + 1 < cLine) (I : Inv X pins σ H s) (g : DPut H a y v H') (ry : RelV y u) (rv : RelV v r) (h : ∀ s',Inv X pins σ H' s' -> Q () s') :
   wpAny (model X.prog X.w) A (setItem (.ref a) u r) Q E s := by
 rcases g with ⟨kvs,k,e,ey,l,eH⟩ | ⟨kvs,k,b,e,ey,eb,l,eH⟩
 . subst ey eH
   obtain ⟨z,hd,vs,rel,dd⟩ := dk_of I.hok e
   have hz : vs.length <= sizeLine := by rw [<- rel.length]; exact z
   have hl : (putK kvs k v).length <= sizeLine := by have := length_putK kvs k v; omega
   refine wpAny_setItem_pairs (hsz := hz) (kV_is ry) dd fun h' dd' hs => h _ ?_
   have he : ∃ q,h'.get? a = some q := let ⟨q,_,_,hq,_⟩ := dd'; ⟨q,hq⟩
   exact d_write I (by rw [e]; exact True.intro) hs he (dk_new hl hd (rel.put k rv) dd')
 . subst ey eH
   cases (show u = Value.ref b from ry)
   obtain ⟨z,hd,xs,rel,dd⟩ := dt_of I.hok e
   have hz : xs.length <= sizeLine := by rw [<- Paired.length rel]; exact z
   have hl : (putK kvs k v).length <= sizeLine := by have := length_putK kvs k v; omega
   refine wpAny_setItem_heap (hsz := hz) (tupleKind_room_in1 hu) (key_of I.hok eb) dd fun h' dd' hs => h _ ?_
   obtain ⟨q,es,ep,hq,h2,h3,h4,_,h5⟩ := dd'
   refine d_write I (by rw [e]; exact True.intro) hs ⟨q,hq⟩ ⟨hl,hd,_,(rel.put k eb rv).keeps fun c ys ec => ?_,q,es,ep,hq,h2,h3,h4,h5⟩
   rw [upd_ne (ne_of ec e (fun z => nomatch z))]
   exact ec
end
section
variable {X : Cx} {pins : List (Addr × Obj)} {σ : St} {H : Hp} {s : Shared} {a : Addr} {kvs : List (Key × V)} {k : Key} {u : Value} {A : Around} {E : Value -> Shared -> Prop}
theorem d_len {Q : Value -> Shared -> Prop} (I : Inv X pins σ H s) (e : Rd H a (.dK kvs)) (h : ∀ t s',Inv X pins σ H s' -> Q (.int kvs.length t) s') : wpAny (model X.prog X.w) A (call (.builtin "len") [.ref a]) Q E s := by
 obtain ⟨z,hd,vs,rel,dd⟩ := dk_rd I.hok e
 refine call_len_dict hd dd (by rw [<- rel.length]; rw [sizeLine_eq] at z; omega) ?_
 rw [<- rel.length]
 exact h _ _ (I.tok _)
end
def NoSl (i : Expr) : Prop := ∀ ov iv,subscripted i false ov iv = operate [ov,iv] (getItem ov iv)
theorem subD_of {prog : Program} {w : World} {A : Around} {E : Value -> Shared -> Prop} {s : Shared} {env : Env} {value slice : Expr} {pos : Pos} {T id : String} {Q : Value -> Shared -> Prop}
   (hl : typeLookup (.type T) "__getitem__" = pure (some (.builtin id))) (hs : NoSl slice)
   (h : wpAny (model prog w) A (eval value env) (fun o s₁ => wpAny (model prog w) A (eval slice env) (fun i s₂ => s₂.TypeIs o T /\ wpAny (model prog w) A (getItem o i) Q E s₂) E s₁) E s) :
   wpAny (model prog w) A (eval (.Subscript value slice pos) env) Q E s := by
 refine Subscript_ (wpAny_mono h (fun o s₁ h₁ => wpAny_mono h₁ (fun i s₂ h₂ => ?_) fun _ _ x => x) fun _ _ x => x)
 obtain ⟨hT,h₂⟩ := h₂
 unfold subscriptTail
 refine wpAny_bind ?_
 rw [getitemInPython_of_ne hT.not_modules]
 refine wpAny_bind (wpAny_specialOf hT hl ?_)
 have fin : wpAny (model prog w) A (subscripted slice false o i) (fun r s₃ => wpAny (model prog w) A (letTemporaryGo value o r >>= fun _ => pure r) Q E s₃) E s₂ := by
   rw [hs o i]
   exact wpAny_operating (wpAny_mono h₂ (fun r s₃ h₃ => wpAny_bind (wpAny_letTemporaryGo (wpAny_pure h₃))) fun _ _ x => x)
 first
   | exact wpAny_pure (wpAny_bind fin)
   | exact wpAny_bind (wpAny_pure (wpAny_bind fin))
   | exact wpAny_bind fin
theorem dict_typeIs {X : Cx} {pins : List (Addr × Obj)} {σ : St} {H : Hp} {s : Shared} {a : Addr} {y : V} {o : Option V} (I : Inv X pins σ H s) (g : DGet H a y o) : s.TypeIs (.ref a) "dict" := by
 rcases g with ⟨kvs,k,e,_,_⟩ | ⟨kvs,k,b,e,_,_,_⟩
 . obtain ⟨_,_,vs,_,dd⟩ := dk_rd I.hok e
   exact dd.typeIs
 . obtain ⟨_,_,xs,_,dd⟩ := dt_rd I.hok e
   exact dd.typeIs
def tDGet (td ty : TE) : TE := fun σ H Q => td σ H fun x H1 => ty σ H1 fun y H2 => ∃ a v,x = .ref a /\ DGet H2 a y (some v) /\ Q v H2
def tDIn (ty td : TE) : TE := fun σ H Q => ty σ H fun y H1 => td σ H1 fun x H2 => ∃ a o,x = .ref a /\ DGet H2 a y o /\ Q (.bl o.isSome) H2
def sDPut (td ty tv : TE) : TS := fun D σ H => tv σ H fun v H1 => td σ H1 fun x H2 => ty σ H2 fun y H3 => ∃ a H4,x = .ref a /\ DPut H3 a y v H4 /\ D.nx σ H4
section
variable {X : Cx} {o i e value : Expr} {pos pos' tpos : Pos} {td ty tv : TE}
theorem pe_dget (hu : X.A.units + 1 < cLine) (ho : PE X o td) (hi : PE X i ty) (hs : NoSl i) : PE X (.Subscript o i pos) (tDGet td ty) := by
 intro pins s σ H Q I h
 refine subD_of PySem.F.slot_dict_getitem.lookup hs (thn (ho pins s σ H _ I h) fun u s1 ⟨x,H1,I1,rx,q1⟩ => thn (hi pins s1 σ H1 _ I1 q1) fun iv s2 ⟨y,H2,I2,ry,a,v,ex,g,q2⟩ => ?_)
 subst ex
 obtain rfl : u = Value.ref a := rx
 exact ⟨dict_typeIs I2 g,d_getItem hu I2 g ry fun w' s3 I3 rw' => ⟨v,H2,I3,rw',q2⟩⟩
theorem pc_din (hu : X.A.units + 1 < cLine) (hi : PE X i ty) (ho : PE X o td) : PC X .In i o (tDIn ty td) := by
 intro pins s σ H Q I h
 refine thn (hi pins s σ H _ I h) fun iv s1 ⟨y,H1,I1,ry,q1⟩ => thn (ho pins s1 σ H1 _ I1 q1) fun u s2 ⟨x,H2,I2,rx,a,ov,ex,g,q2⟩ => ?_
 subst ex
 obtain rfl : u = Value.ref a := rx
 exact d_in hu I2 g ry fun s3 I3 => ⟨.bl ov.isSome,H2,I3,rfl,q2⟩
theorem ps_dput (hu : X.A.units + 1 < cLine) (ho : PE X o td) (hi : PE X i ty) (hv : PE X value tv) (hs : swapsWith value (some (.Subscript o i pos')) pos.line X.env = pure false) :
   PS X (.Assign [.Subscript o i pos'] value pos) (sDPut td ty tv) := by
 intro pins s σ H D I h
 refine wpAny_Assign_Subscript (thn (hv pins s σ H _ I h) fun r s1 ⟨v,H1,I1,rv,q1⟩ => thn (ho pins s1 σ H1 _ I1 q1) fun u s2 ⟨x,H2,I2,rx,q2⟩ => thn (hi pins s2 σ H2 _ I2 q2) fun iv s3 ⟨y,H3,I3,ry,a,H4,ex,g,q3⟩ => ?_) hs
 subst ex
 obtain rfl : u = Value.ref a := rx
 exact d_setItem hu I3 g ry rv fun s4 I4 => ⟨σ,H4,I4,q3⟩
end
theorem dk_empty {P : Program} {w : World} {H : Hp} (h : Heap) (hb : sysModules < h.objs.size) : ObjOk P w H (h.push { cls := .type "dict",data := .dict #[] }) h.objs.size (.dK []) :=
 ⟨Nat.zero_le _,beq_eq_false_iff_ne.mpr (Ne.symm (Nat.ne_of_lt hb)),[],.nil,Heap.DictOf.new h⟩
theorem dt_empty {P : Program} {w : World} {H : Hp} (h : Heap) (hb : sysModules < h.objs.size) : ObjOk P w H (h.push { cls := .type "dict",data := .dict #[] }) h.objs.size (.dT []) :=
 ⟨Nat.zero_le _,beq_eq_false_iff_ne.mpr (Ne.symm (Nat.ne_of_lt hb)),[],.nil,_,#[],0,Heap.get?_push_size _ rfl,⟨rfl,rfl,rfl⟩,rfl,rfl,List.nodup_nil⟩
def tDNewK : TE := fun _ H Q => ∀ p,H p = none -> Q (.ref p) (upd H p (.dK []))
def tDNewT : TE := fun _ H Q => ∀ p,H p = none -> Q (.ref p) (upd H p (.dT []))
section
variable {X : Cx} {pos : Pos}
theorem pe_dnewK : PE X (.Dict [] [] pos) tDNewK := fun pins s σ H Q I h =>
 wpAny_Dict_empty ⟨.ref s.heap.objs.size,_,I.laid (a := s.heap.objs.size) (o := .dK []) (t' := s.toks) (fun _ _ q => Heap.get?_push_of_some _ q) (Nat.le_refl _) (dk_empty s.heap I.big),rfl,h _ (I.hok.fresh (Nat.le_refl _))⟩
theorem pe_dnewT : PE X (.Dict [] [] pos) tDNewT := fun pins s σ H Q I h =>
 wpAny_Dict_empty ⟨.ref s.heap.objs.size,_,I.laid (a := s.heap.objs.size) (o := .dT []) (t' := s.toks) (fun _ _ q => Heap.get?_push_of_some _ q) (Nat.le_refl _) (dt_empty s.heap I.big),rfl,h _ (I.hok.fresh (Nat.le_refl _))⟩
end
def mergeK (kvs more : List (Key × V)) : List (Key × V) := more.foldl (fun acc kv => putK acc kv.1 kv.2) kvs
theorem KV.merge : ∀ {more : List (Key × V)} {rs : List (Key × Value)} {kvs : List (Key × V)} {vs : List (Key × Value)},KV more rs -> KV kvs vs -> KV (mergeK kvs more) (merged vs rs) := by
 intro more rs kvs vs r
 unfold KV at r
 induction r generalizing kvs vs with
 | nil => intro q; exact q
 | @cons p q ps qs h t ih =>
   intro r0
   have e : KV (putK kvs p.1 p.2) (stored vs q.1 q.2) := by
     have := r0.put p.1 h.2
     rw [<- h.1]; exact this
   exact ih e
theorem length_mergeK : ∀ (more kvs : List (Key × V)),(mergeK kvs more).length <= kvs.length + more.length
 | [],kvs => by show kvs.length <= kvs.length + 0; omega
 | p :: r,kvs => by
   have h1 := length_mergeK r (putK kvs p.1 p.2)
   have h2 := length_putK kvs p.1 p.2
   show (mergeK (putK kvs p.1 p.2) r).length <= _
   rw [List.length_cons]; omega
structure M2 (X : Cx) (o : Expr) (m : Str) (apos : Pos) (e f : Expr) (cpos : Pos) : Prop where
 base : attributeBase o m X.env (eval o X.env) = eval o X.env
 few : ((backTo cpos (starEach [e,f] X.env)).all (fun x => !x.1) && (backToKw cpos (keywordEach [] X.env)).all (fun x => x.1.isSome)
   && decide (([e,f] : List Expr).length + ([] : List Keyword).length + (if ([] : List Keyword).isEmpty then 0 else 1) < 30)) = true
 line : (apos.endLine == cpos.line) = true
 trees : backTo cpos (starEach [e,f] X.env) = [(false,eval e X.env),(false,eval f X.env)]
def IsD (H : Hp) (a : Addr) : Prop := (∃ kvs,Rd H a (.dK kvs)) ∨ ∃ kvs,Rd H a (.dT kvs)
theorem isD_at {X : Cx} {pins : List (Addr × Obj)} {σ : St} {H : Hp} {s : Shared} {a : Addr} (I : Inv X pins σ H s) (d : IsD H a) :
   s.TypeIs (.ref a) "dict" /\ (∀ b,Value.ref a = .ref b -> ∃ ob,s.heap.get? b = some ob /\ ob.dict = none) /\ (a == sysModules) = false := by
 rcases d with ⟨kvs,e⟩ | ⟨kvs,e⟩
 . obtain ⟨_,hd,vs,_,dd⟩ := dk_rd I.hok e
   refine ⟨dd.typeIs,fun b q => ?_,hd⟩
   cases q
   obtain ⟨ob,_,_,h1,h2,_⟩ := dd
   exact ⟨ob,h1,h2.2.1⟩
 . obtain ⟨_,hd,xs,_,dd⟩ := dt_rd I.hok e
   refine ⟨dd.typeIs,fun b q => ?_,hd⟩
   cases q
   obtain ⟨ob,_,_,h1,h2,_⟩ := dd
   exact ⟨ob,h1,h2.2.1⟩
section
variable {X : Cx} {pins : List (Addr × Obj)} {σ : St} {H : Hp} {s : Shared} {a : Addr} {y d : V} {u r : Value} {o : Option V} {A : Around} {E : Value -> Shared -> Prop}
theorem d_get2 {Q : Value -> Shared -> Prop} (hu : A.units + 1 < cLine) (I : Inv X pins σ H s) (g : DGet H a y o) (ry : RelV y u) (rd : RelV d r) (h : ∀ w' s',Inv X pins σ H s' -> RelV (o.getD d) w' -> Q w' s') :
   wpAny (model X.prog X.w) A (call (.builtin "dict.get") [.ref a,u,r]) Q E s := by
 rcases g with ⟨kvs,k,e,ey,l⟩ | ⟨kvs,k,b,e,ey,eb,l⟩
 . subst ey
   obtain ⟨z,hd,vs,rel,dd⟩ := dk_rd I.hok e
   refine call_meetsIn PySem.F.slot_dict_get dd.typeIs PySem.F.entry_dict_get (PySem.F.args_dict_get_3 _ _ _) (meets_dict_get_default (mixKind X.prog X.w) a (kV_is ry) hd r) ⟨_,dd.mapOf,h _ _ (I.tok _) ?_⟩
   rw [l]
   exact (rel.val k).getD rd
 . subst ey
   cases (show u = Value.ref b from ry)
   obtain ⟨z,hd,xs,rel,dd⟩ := dt_rd I.hok e
   refine call_meetsIn PySem.F.slot_dict_get dd.typeIs PySem.F.entry_dict_get (PySem.F.args_dict_get_3 _ _ _) (meetsH_dict_get_default (tupleKind (mixKind X.prog X.w)) a b hd r) ⟨tupleKind_room_in1 hu,k,xs,key_of I.hok eb,dd,h _ _ (I.tok _) ?_⟩
   rw [l]
   exact (rel.val k).getD rd
end
def tDGet2 (td ty tx : TE) : TE := fun σ H Q => td σ H fun x H1 => ∃ a,x = .ref a /\ IsD H1 a /\ ty σ H1 fun y H2 => tx σ H2 fun z H3 => ∃ o,DGet H3 a y o /\ Q (o.getD z) H3
section
variable {X : Cx} {o e f : Expr} {apos cpos : Pos} {td ty tx : TE}
theorem pe_dget2 (hu : X.A.units + 1 < cLine) (ho : PE X o td) (he : PE X e ty) (hf : PE X f tx) (m : M2 X o "get" apos e f cpos) : PE X (.Call (.Attribute o "get" apos) [e,f] [] cpos) (tDGet2 td ty tx) := by
 intro pins s σ H Q I h
 refine wpAny_Call_method m.base m.few m.line PySem.F.plainAttrs_dict PySem.F.slot_dict_get PySem.F.type_dict_get (thn (ho pins s σ H _ I h) fun u s1 ⟨x,H1,I1,rx,a,ex,d,q1⟩ => ?_)
 subst ex
 obtain rfl : u = Value.ref a := rx
 obtain ⟨t1,t2,_⟩ := isD_at I1 d
 refine ⟨t1,t2,?_⟩
 rw [m.trees]
 refine Calls.callWith_builtin rfl (Calls.evalArgs_plain (Calls.spliced_cons (thn (he pins s1 σ H1 _ I1 q1) fun iv s2 ⟨y,H2,I2,ry,q2⟩ =>
   Calls.spliced_cons (thn (hf pins s2 σ H2 _ I2 q2) fun fv s3 ⟨z,H3,I3,rz,ov,g,q3⟩ => Calls.spliced_nil ?_))))
 exact d_get2 hu I3 g ry rz fun w' s4 I4 rw' => ⟨_,H3,I4,rw',q3⟩
end
section
variable {X : Cx} {pins : List (Addr × Obj)} {σ : St} {H : Hp} {s : Shared} {a : Addr} {kvs : List (Key × V)} {A : Around} {E : Value -> Shared -> Prop}
end
section
variable {X : Cx} {pins : List (Addr × Obj)} {σ : St} {H : Hp} {s : Shared} {a : Addr} {y : V} {u : Value} {A : Around} {E : Value -> Shared -> Prop}
end
end L2
namespace Att
open PySem PySem.W PySem.Calls PyProof.Rows
theorem ints_of_wellAll {P : Params} {h : Heap} : ∀ (ns : List Int) (vs : List Value),WellAll P h vs (ns.map WData.int) -> IntsAre vs ns := by
 intro ns
 induction ns with
 | nil =>
   intro vs w
   rw [List.map_nil] at w
   cases w
   exact .nil
 | cons n ns ih =>
   intro vs w
   rw [List.map_cons] at w
   cases w with
   | cons a b =>
     cases a
     exact .cons _ _ (ih _ b)
theorem script_of {l : OpenLaw} {n : Nat} (hn : l.most = some n) {P : Params} {h : Heap} {args : List WData} {vals : List Value}
   (hpre : l.row.toRowW.claim.pre args = true) (hwl : WellAll P h vals args) :
   ∃ a vs ns,vals = [Value.ref a] /\ args = [WData.list (ns.map WData.int)] /\ h.get? a = some { cls := .type "list",data := .seq vs.toArray } /\ IntsAre vs ns /\ ns.length <= n := by
 have hsh : WShape.hasAll [] args [.list .int] = true := (pre_splitW hpre).1
 have hc : l.pre.holds [] { args := args } = true := (pre_splitW hpre).2
 obtain ⟨d,r,rfl,h1,h2⟩ := hasAllW_cons hsh
 obtain rfl := hasAllW_nil h2
 obtain ⟨xs,rfl,h3⟩ := hasW_list h1
 obtain ⟨ns,rfl⟩ := items_int h3
 have hlen : ns.length <= n := by
   unfold OpenLaw.pre at hc
   have h4 : (WTm.not (.lt (.lit (.int (n : Int))) (.len (.arg 0)))).holds [] { args := [.list (ns.map .int)] } = true := by
     have h4 := (holds_andW hc).1
     rw [hn] at h4
     exact h4
   have h5 := condW_of h4 (w_not (w_lt w_lit (w_len_list (w_arg rfl))))
   rw [List.length_map] at h5
   refine Nat.le_of_not_lt fun q => ?_
   have q' : (n : Int) < ((ns.length : Nat) : Int) := by omega
   first
     | (rw [decide_eq_true q'] at h5; exact absurd h5 (by decide))
     | (simp at h5; omega)
 cases hwl with
 | cons w1 w2 =>
   cases w2
   cases w1 with
   | list ho hall => exact ⟨_,_,ns,rfl,rfl,ho,ints_of_wellAll ns _ hall,hlen⟩
theorem post_true (l : OpenLaw) (args : List WData) : l.row.toRowW.claim.post args (.bool true) args = true :=
 postW_of (r := l.row.toRowW) (X := (true == true))
   (show WShape.has [] (.bool true) .bool = true by first | rfl | decide | simp [WShape.has,WShape.arms,WShape.armsAll])
   (show (WTm.eq .res (.lit (.bool true))).value [] { args := args,res := some (.bool true),after := args } = some (.bool (true == true)) from w_eq_bool (w_res rfl) w_lit) rfl
section
variable {prog : Program} {w : World} {A : Around} {E : Value -> Shared -> Prop} {s : Shared} {K : Frag}
end
end Att
namespace L2
open PySem PySem.Spec PyProof.Rows
theorem vals_ints : ∀ {vs : List Value} {ns : List Int},IntsAre vs ns -> Vals (ns.map V.int) vs
 | _,_,.nil => .nil
 | _,_,.cons n t h => .cons ⟨t,rfl⟩ (vals_ints h)
def Only (H : Hp) : Prop := ∀ b,H b = none ∨ ∃ o xs,H b = some (.frz o (.lst xs))
theorem law_call {P : Program} {w : World} {K : PySem.W.Frag} {mg mb : Str -> Option Value} {CX : CXT} {k : Nat} {fa a : Addr} {fd : FuncData} {x : Str} {sp : Sp} {s₁ : Shared} {vs : List Value} {ns : List Int}
   (KX : K.In s₁.heap) (hns : s₁.heap.Ns mainGlobals mg) (hb : s₁.heap.Ns builtinsNs mb) (hbb : ∀ x : Str,x ≠ "__name__" -> mb x = bootBuiltins x) (hlim : s₁.heap.NoLimit) (hg : s₁.gens = #[])
   (ha : s₁.heap.get? a = some { cls := .type "list",data := .seq vs.toArray }) (hi : IntsAre vs ns) (hl : ns.length <= sizeLine) (hr : Room k callerA)
   (F : ∀ base : Heap,K.In base -> base.Ns mainGlobals mg -> FnOk P w K mg base CX k fa fd [x] sp) (hbind : ∀ (s : Shared) (u : Value),BindsTo s fd ⟨[u],[]⟩ [(x,u)])
   (hsp : ∀ H : Hp,Only H -> SqL K H a (ns.map V.int) -> sp [.ref a] H (fun v _ => v = .bl true) fun _ _ _ => False)
   (hCX : ∀ H e s',CX [] H s₁ (fun _ _ _ => False) e s' -> False) :
   codeAny (model P w) callerA (.call (.ref fa) ⟨[.ref a],[]⟩) (fun r s' => r = .ok (.ret (.bool true)) /\ OldK s₁.heap s'.heap /\ s'.os = s₁.os /\ AllBare s'.gens) s₁ := by
 have rv := vals_ints hi
 have lenV := hi.length
 -- from an abstract heap in which nothing but the script may be tracked
 have core : ∀ H : Hp,Only H -> SqL K H a (ns.map V.int) -> HOk P w H s₁.heap -> (∀ b,H b ≠ none -> b = a) -> (H a ≠ none -> K.lookup a = none) ->
     codeAny (model P w) callerA (.call (.ref fa) ⟨[.ref a],[]⟩) (fun r s' => r = .ok (.ret (.bool true)) /\ OldK s₁.heap s'.heap /\ s'.os = s₁.os /\ AllBare s'.gens) s₁ := by
   intro H hO hS hok hA hK
   have base_of : ∀ {b : Addr} {o : Obj},s₁.heap.get? b = some o -> H b = none -> (hidT s₁.heap H).get? b = some o := fun e n => hidT_get e n
   have noA : ∀ {b : Addr} {o : Obj} {es : Array DictEntry} {ep : Nat},s₁.heap.get? b = some o -> o.data = .dict es ep -> H b = none := fun {b o es ep} e d => by
     cases q : H b with
     | none => rfl
     | some u =>
       have e' : b = a := hA b (by rw [q]; simp)
       subst e'
       rw [ha] at e; cases e
       have d' : Data.seq vs.toArray _ = Data.dict es ep := d
       cases d'
   have nsK : ∀ {b : Addr} {m : Str -> Option Value},s₁.heap.Ns b m -> (hidT s₁.heap H).Ns b m := fun {b m} ⟨o,es,ep,e,d,r⟩ => ⟨o,es,ep,base_of e (noA e d),d,r⟩
   have hKb : K.In (hidT s₁.heap H) := fun b o e => base_of (KX b o e) (by
     cases q : H b with
     | none => rfl
     | some u =>
       have e' : b = a := hA b (by rw [q]; simp)
       subst e'
       rw [hK (by rw [q]; simp)] at e; cases e)
   have hM : Mod K mg (hidT s₁.heap H) := ⟨hKb,nsK hns,⟨mb,nsK hb,hbb⟩,let ⟨mc,h1,h2⟩ := hlim; ⟨mc,nsK h1,h2⟩⟩
   have e0 : Env0 P w K mg (hidT s₁.heap H) callerA [] s₁ H := ⟨rfl,hM,fun b o e => of_hidT e,Nat.le_of_eq (hidT_size _ _),trivial,fun b hb => absurd (show b ∈ ([] : List Addr) from hb) (by simp),hok,.of_eq hg⟩
   refine codeAny_mono ((F _ hKb (nsK hns)).run callerA [] s₁ H ⟨[.ref a],[]⟩ [.ref a] [.ref a] _ _ hr e0 (hbind s₁ (.ref a)) (.cons rfl .nil) (hsp H hO hS)) fun r s' h => ?_
   cases r with
   | error e => exact (hCX H e s' h).elim
   | ok fl =>
     cases fl with
     | next => exact False.elim h
     | brk => exact False.elim h
     | cont => exact False.elim h
     | ret u =>
       obtain ⟨v,H',os,bare,un,hok',r',q⟩ := h
       have q' : v = .bl true := q
       subst q'
       obtain rfl : u = Value.bool true := r'
       refine ⟨rfl,OldK.of_keep fun b o e => ?_,os,bare⟩
       cases q : H b with
       | none => exact un.keep b o e q (by intro z; exact absurd (show b ∈ ([] : List Addr) from z) (by simp)) (by simp)
       | some u =>
         rcases hO b with z | ⟨ob,xs,z⟩
         . rw [q] at z; cases z
         . have z2 := un.frzs b ob _ z
           obtain ⟨e1,_⟩ := hok b _ z
           obtain ⟨e2,_⟩ := hok' b _ z2
           rw [e] at e1; cases e1
           exact e2
 cases hk : K.lookup a with
 | some o =>
   -- the script is one of the module's own objects
   have e := KX a o hk
   rw [ha] at e
   cases e
   refine core (fun _ => none) (fun _ => .inl rfl) (.inr ⟨_,vs.toArray,_,hk,rfl,rfl,rfl,by rw [List.size_toArray,lenV]; exact hl,by simpa using rv⟩) (fun b u z => by have z' : (none : Option HO) = some u := z; cases z') (fun b z => absurd rfl z) fun z => absurd rfl z
 | none =>
   refine core (fun b => if b = a then some (.frz { cls := .type "list",data := .seq vs.toArray } (.lst (ns.map V.int))) else none) (fun b => ?_) (.inl (.inr ⟨{ cls := .type "list",data := .seq vs.toArray },if_pos rfl⟩)) (fun b u z => ?_) (fun b z => ?_) fun _ => hk
   . by_cases hb : b = a
     . exact .inr ⟨_,_,if_pos hb⟩
     . exact .inl (if_neg hb)
   . by_cases hb : b = a
     . have z' := (if_pos hb).symm.trans z
       cases z'
       subst hb
       exact ⟨ha,by rw [List.length_map]; exact hl,vs,_,rv,ha⟩
     . have z' := (if_neg hb).symm.trans z
       cases z'
   . by_cases hb : b = a
     . exact hb
     . exact absurd (if_neg hb) z
end L2
namespace L2
open PySem PySem.Spec PyProof.Rows
end L2
namespace L2
open PySem PySem.Spec PyProof.Rows
def defArgs (s : Stmt) : Arguments := match s with
 | .FunctionDef _ a _ _ _ _ _ _ _ _ => a
 | _ => { posonlyargs := [],args := [],vararg := none,kwonlyargs := [],kw_defaults := [],kwarg := none,defaults := [] }
def defBody (s : Stmt) : List Stmt := match s with
 | .FunctionDef _ _ b _ _ _ _ _ _ _ => b
 | _ => []
def defScope (s : Stmt) : Scope := match s with
 | .FunctionDef _ _ _ _ _ _ sc _ _ _ => sc
 | _ => { kind := .function,names := [],isGenerator := false,isCoroutine := false }
abbrev CX0 : CXT := fun _ _ _ _ _ _ => False
abbrev E0 : XK := fun _ _ _ => False
theorem pass0 {X : Cx} : Passes CX0 X E0 := fun _ _ _ _ _ _ _ h => h.elim
structure Fun (K : PySem.W.Frag) (x qual : Str) (st : Stmt) (f : Addr) (fd : FuncData) : Prop where
 ex : ∃ (oc : Value) (od : Option Addr) (kV doc pm : Value) (an : Option Addr) (cdv ct : Value) (osl : Array (Option Value)),
   fd = PySem.W.fnOf x qual (defArgs st) (defBody st) (defScope st) .none kV doc pm an cdv ct /\ K.lookup f = some ⟨oc,od,.func fd,osl⟩ /\ PySem.W.codeIn K cdv qual = true
 kp : PySem.W.keepIn K (.ref f) = true
section
variable {P : Program} {w : World} {K : PySem.W.Frag} {mg : Str -> Option Value} {base : Heap}
theorem Fun.ok {x qual : Str} {st : Stmt} {f : Addr} {fd : FuncData} {N ps : List Str} {k : Nat} {sp : Sp} (F : Fun K x qual st f fd) (S : FnScope N ps (defScope st)) (len : ∀ vs H Q E,sp vs H Q E -> vs.length = ps.length)
   (hbody : ∀ (cdv : Value) (A : Around) (outer : List Env) (s : Shared) (H : Hp) (vs : List V) (Q : VK) (E : XK),Room k (A.deeper (envOfC qual (defScope st) s.heap.objs.size f cdv)) -> sp vs H Q E ->
     ∃ t,PSs (cxOf CX0 P w K mg base N qual (defScope st) f cdv A outer s H E).nox (defBody st) t /\ t { nx := fun _ H' => Q .non H',rt := Q } (start N vs) H) : FnOk P w K mg base CX0 (k + 1) f fd ps sp := by
 obtain ⟨oc,od,kV,doc,pm,an,cdv,ct,osl,rfl,lk,hcd⟩ := F.ex
 refine fn_of lk hcd S len fun A outer s H vs Q E hr hsp => ?_
 obtain ⟨t,h,q⟩ := hbody cdv A outer s H vs Q E hr hsp
 exact ⟨t,h.nox,q⟩
theorem Fun.binds {x qual : Str} {st : Stmt} {f : Addr} {fd : FuncData} {ps : List Str} (F : Fun K x qual st f fd)
   (h : ∀ (kV doc pm : Value) (an : Option Addr) (cdv ct : Value) (us : List Value),us.length = ps.length -> bindArgs (PySem.W.fnOf x qual (defArgs st) (defBody st) (defScope st) .none kV doc pm an cdv ct) ⟨us,[]⟩ = pure (ps.zip us)) : Binds K fd ps [] := by
 obtain ⟨oc,od,kV,doc,pm,an,cdv,ct,osl,rfl,lk,hcd⟩ := F.ex
 exact .all (h kV doc pm an cdv ct)
theorem fun_mk {x qual : Str} {st : Stmt} {f : Addr} {oc : Value} {od an : Option Addr} {osl : Array (Option Value)} {kV doc pm cdv ct : Value} (l : K.lookup f = some ⟨oc,od,.func (PySem.W.fnOf x qual (defArgs st) (defBody st) (defScope st) .none kV doc pm an cdv ct),osl⟩)
   (c : PySem.W.codeIn K cdv qual = true) (k : PySem.W.keepIn K (.ref f) = true) : Fun K x qual st f (PySem.W.fnOf x qual (defArgs st) (defBody st) (defScope st) .none kV doc pm an cdv ct) := ⟨⟨oc,od,kV,doc,pm,an,cdv,ct,osl,rfl,l,c⟩,k⟩
end
theorem hu_of {A : Around} {k : Nat} (hr : Room k A) : A.units + 1 < cLine := Nat.lt_of_le_of_lt (Nat.add_le_add_left (by decide : 1 <= 64) _) hr.units
section
variable {X : Cx}
end
theorem ite2 {c A B : Prop} [Decidable c] (h1 : c -> A) (h2 : ¬ c -> B) : if c then A else B := by
 by_cases h : c
 . rw [if_pos h]
   exact h1 h
 . rw [if_neg h]
   exact h2 h
def Same (H H' : Hp) : Prop := ∀ b o,H b = some o -> H' b = some o
theorem Same.refl (H : Hp) : Same H H := fun _ _ h => h
theorem Same.trans {H H1 H2 : Hp} (a : Same H H1) (b : Same H1 H2) : Same H H2 := fun c o h => b c o (a c o h)
theorem Same.free {H H' : Hp} (e : Same H H') {l : Addr} (h : H' l = Option.none) : H l = Option.none := by
 cases q : H l with
 | none => rfl
 | some o =>
   rw [e l o q] at h
   cases h
end L2
namespace L2
open PySem PySem.Spec PyProof.Rows
section
variable {X : Cx}
theorem call_lenD : CallR X (.builtin "len") (fun xs H Q => ∃ a kvs,xs = [V.ref a] /\ H a = some (.dK kvs) /\ Q (.int kvs.length) H) := by
 intro pins s σ H xs us Q I r h
 obtain ⟨a,kvs,rfl,ha,q⟩ := h
 obtain ⟨u,rfl,ru⟩ := vals1 r
 cases ru
 exact d_len I (.inl ha) fun t s' I' => ⟨.int kvs.length,H,I',⟨t,rfl⟩,q⟩
end
section
variable {κ : Type} [DecidableEq κ]
theorem valV_in {kvs : List (κ × V)} {k : κ} {v : V} (h : valV kvs k = some v) : k ∈ kvs.map (·.1) := by
 have q : (kvs.any fun kv => decide (kv.1 = k)) = true := by
   rw [valV_any,h]
   all_goals rfl
 obtain ⟨p,hp,e⟩ := List.any_eq_true.mp q
 exact List.mem_map.mpr ⟨p,hp,of_decide_eq_true e⟩
end
end L2
set_option maxHeartbeats 4000000
namespace L2
open PySem PySem.Spec PyProof.Rows
def relabelS (scope sc : Scope) : Scope :=
 { scope with names := scope.names.map fun (n,k) => if (k == .free && sc.kind == .function && sc.names.lookup n == some .cell) then (n,.cell) else (n,k) }
structure BI where
 cells : List (Str × Addr)
 C : Addr
 s : Shared
 H : Hp
 fp : List Addr
 pins : List (Addr × Obj)
def envB (scope : Scope) (cells : List (Str × Addr)) (C : Addr) (env : Env) : Env :=
 { scope := relabelS scope env.scope,locals := C,globals := env.globals,cells := cells,qual := env.qual,func := none,code := env.code,frame := env.frame,builtins := env.builtins }
def blk (X : Cx) (scope : Scope) (N : List Str) (b : BI) : Cx where
 prog := X.prog
 w := X.w
 K := X.K
 mg := X.mg
 base := X.base
 A := X.A
 N := N
 s₀ := b.s
 H₀ := b.H
 env := envB scope b.cells b.C X.env
 outer := X.stack
 stack := X.stack
 ex := b.fp
 fn := fun x => scope.names.lookup x == some .cell
 calm := X.calm
 pn := X.pn ++ b.pins
 xe := fun _ _ => False
def closOf (env : Env) : List (Str × NameKind) -> List (Str × Addr) -> List (Str × Addr)
 | [],acc => acc
 | (n,k) :: r,acc => if k == .free then closOf env r ((n,(env.cells.lookup n).getD 0) :: acc) else closOf env r acc
theorem forIn_clos (env : Env) (f : Str × NameKind -> List (Str × Addr) -> Sem (ForInStep (List (Str × Addr))))
   (hf : ∀ n k cs,f (n,k) cs = if k == .free then (cellOf env n >>= fun a => pure (.yield ((n,a) :: cs))) else pure (.yield cs)) :
   ∀ (names : List (Str × NameKind)) (acc : List (Str × Addr)),(∀ y ∈ names,y.2 = .free -> ∃ c,env.cells.lookup y.1 = some c) -> forIn names acc f = (pure (closOf env names acc) : Sem _)
 | [],acc,_ => by rw [List.forIn_nil]; rfl
 | (n,k) :: r,acc,h => by
   rw [List.forIn_cons,hf]
   have hr : ∀ y ∈ r,y.2 = .free -> ∃ c,env.cells.lookup y.1 = some c := fun y hy => h y (List.mem_cons_of_mem _ hy)
   cases hk : k == NameKind.free with
   | true =>
     obtain ⟨c,hc⟩ := h (n,k) List.mem_cons_self (beq_iff_eq.mp hk)
     have e1 : cellOf env n = pure c := by unfold cellOf; rw [show env.cells.lookup n = some c from hc]
     have e2 : closOf env ((n,k) :: r) acc = closOf env r ((n,c) :: acc) := by
       show (if (k == NameKind.free) = true then _ else _) = _
       rw [if_pos hk,show env.cells.lookup n = some c from hc]; rfl
     rw [e2,if_pos rfl,e1]
     exact forIn_clos env f hf r ((n,c) :: acc) hr
   | false =>
     have e2 : closOf env ((n,k) :: r) acc = closOf env r acc := by
       show (if (k == NameKind.free) = true then _ else _) = _
       rw [if_neg (by rw [hk]; exact Bool.false_ne_true)]
     rw [e2,if_neg Bool.false_ne_true]
     exact forIn_clos env f hf r acc hr
theorem closureFor_eq {scope : Scope} {env : Env} (h : ∀ y ∈ scope.names,y.2 = .free -> ∃ c,env.cells.lookup y.1 = some c) : closureFor scope env = pure (closOf env scope.names []) := by
 simp only [closureFor]
 rw [forIn_clos env _ (fun n k cs => by cases hk : k == NameKind.free <;> simp [hk]) scope.names [] h]
 rfl
theorem closOf_look {env : Env} {x : Str} {c : Addr} : ∀ (names : List (Str × NameKind)) (acc : List (Str × Addr)),(closOf env names acc).lookup x = some c -> acc.lookup x = some c ∨ ((x,NameKind.free) ∈ names /\ c = (env.cells.lookup x).getD 0)
 | [],_,h => .inl h
 | (n,k) :: r,acc,h => by
   unfold closOf at h
   by_cases hk : (k == NameKind.free) = true
   . rw [if_pos hk] at h
     rcases closOf_look r _ h with z | ⟨z,e⟩
     . rw [List.lookup_cons] at z
       cases hx : x == n with
       | true =>
         rw [hx] at z
         have e1 : x = n := beq_iff_eq.mp hx
         have e2 : k = NameKind.free := beq_iff_eq.mp hk
         exact .inr ⟨by rw [e1,e2]; exact List.mem_cons_self,by rw [e1]; exact (Option.some.inj z).symm⟩
       | false => rw [hx] at z; exact .inl z
     . exact .inr ⟨List.mem_cons_of_mem _ z,e⟩
   . rw [if_neg hk] at h
     rcases closOf_look r _ h with z | ⟨z,e⟩
     . exact .inl z
     . exact .inr ⟨List.mem_cons_of_mem _ z,e⟩
theorem closOf_has {env : Env} {x : Str} : ∀ (names : List (Str × NameKind)) (acc : List (Str × Addr)),((x,NameKind.free) ∈ names ∨ ∃ c,acc.lookup x = some c) -> ∃ c,(closOf env names acc).lookup x = some c
 | [],_,h => h.elim (fun z => nomatch z) fun z => z
 | (n,k) :: r,acc,h => by
   unfold closOf
   by_cases hk : (k == NameKind.free) = true
   . rw [if_pos hk]
     refine closOf_has r _ ?_
     by_cases hx : x = n
     . exact .inr ⟨_,by rw [List.lookup_cons,beq_iff_eq.mpr hx]⟩
     . rcases h with z | ⟨c,z⟩
       . rcases List.mem_cons.mp z with e | z
         . exact absurd (congrArg Prod.fst e) hx
         . exact .inl z
       . exact .inr ⟨c,by rw [List.lookup_cons,beq_eq_false_iff_ne.mpr hx]; exact z⟩
   . rw [if_neg hk]
     refine closOf_has r _ ?_
     rcases h with z | z
     . rcases List.mem_cons.mp z with e | z
       . have e2 : NameKind.free = k := congrArg Prod.snd e
         exact absurd (beq_iff_eq.mpr e2.symm) hk
       . exact .inl z
     . exact .inr z
theorem cellsFrom_split : ∀ (names : List (Str × NameKind)) (n : Nat) (acc : List (Str × Addr)),cellsFrom n names acc = cellsFrom n names [] ++ acc
 | [],_,_ => rfl
 | (x,k) :: r,n,acc => by
   unfold cellsFrom
   split
   . rw [cellsFrom_split r (n + 1) ((x,n) :: acc),cellsFrom_split r (n + 1) [(x,n)],List.append_assoc]; rfl
   . exact cellsFrom_split r n acc
theorem cellsFrom_kind {x : Str} {c : Addr} : ∀ (names : List (Str × NameKind)) (n : Nat) (acc : List (Str × Addr)),(x,c) ∈ cellsFrom n names acc -> (x,c) ∈ acc ∨ (x,NameKind.cell) ∈ names
 | [],_,_,h => .inl h
 | (y,k) :: r,n,acc,h => by
   unfold cellsFrom at h
   split at h
   . rename_i hk
     rcases cellsFrom_kind r _ _ h with z | z
     . rcases List.mem_cons.mp z with e | z
       . have e1 : x = y := congrArg Prod.fst e
         rw [e1,<- beq_iff_eq.mp hk]; exact .inr List.mem_cons_self
       . exact .inl z
     . exact .inr (List.mem_cons_of_mem _ z)
   . rcases cellsFrom_kind r _ _ h with z | z
     . exact .inl z
     . exact .inr (List.mem_cons_of_mem _ z)
theorem lookup_append {α : Type} {x : Str} : ∀ (l m : List (Str × α)),(l ++ m).lookup x = match l.lookup x with | some c => some c | none => m.lookup x
 | [],m => rfl
 | (y,c) :: l,m => by
   rw [List.cons_append,List.lookup_cons,List.lookup_cons]
   cases x == y with
   | true => rfl
   | false => exact lookup_append l m
theorem lookup_none_of {α : Type} {x : Str} : ∀ {l : List (Str × α)},(∀ c,(x,c) ∉ l) -> l.lookup x = none
 | [],_ => rfl
 | (y,c) :: l,h => by
   rw [List.lookup_cons]
   have hx : x ≠ y := fun e => h c (by rw [e]; exact List.mem_cons_self)
   rw [beq_eq_false_iff_ne.mpr hx]
   exact lookup_none_of fun c hc => h c (List.mem_cons_of_mem _ hc)
theorem relabelS_look {sc : Scope} {x : Str} : ∀ (names : List (Str × NameKind)),(names.map fun (n,k) => if (k == NameKind.free && sc.kind == .function && sc.names.lookup n == some .cell) then (n,NameKind.cell) else (n,k)).lookup x =
   (names.lookup x).map fun k => if (k == NameKind.free && sc.kind == .function && sc.names.lookup x == some .cell) then NameKind.cell else k
 | [] => rfl
 | (n,k) :: r => by
   have ih := relabelS_look (sc := sc) (x := x) r
   rw [List.map_cons]
   by_cases hc : (k == NameKind.free && sc.kind == .function && sc.names.lookup n == some .cell) = true
   . show List.lookup x ((if (k == NameKind.free && sc.kind == .function && sc.names.lookup n == some .cell) = true then (n,NameKind.cell) else (n,k)) :: _) = _
     rw [if_pos hc,List.lookup_cons,List.lookup_cons]
     cases hx : x == n with
     | true =>
       have e : x = n := beq_iff_eq.mp hx
       subst e
       show some NameKind.cell = some (if (k == NameKind.free && sc.kind == .function && sc.names.lookup x == some .cell) = true then NameKind.cell else k)
       rw [if_pos hc]
     | false => exact ih
   . show List.lookup x ((if (k == NameKind.free && sc.kind == .function && sc.names.lookup n == some .cell) = true then (n,NameKind.cell) else (n,k)) :: _) = _
     rw [if_neg hc,List.lookup_cons,List.lookup_cons]
     cases hx : x == n with
     | true =>
       have e : x = n := beq_iff_eq.mp hx
       subst e
       show some k = some (if (k == NameKind.free && sc.kind == .function && sc.names.lookup x == some .cell) = true then NameKind.cell else k)
       rw [if_neg hc]
     | false => exact ih
theorem newEnv_blk {M : Model} {A : Around} {E : Value -> Shared -> Prop} {s : Shared} {scope : Scope} {globals : Addr} {cl : List (Str × Addr)} {qual : Str} {env : Env} {Q : Env -> Shared -> Prop}
   (hQ : Q (newEnv scope s.heap.objs.size globals (cellsFrom (s.heap.objs.size + 1) scope.names cl) qual none .none (some env) builtinsNs) { s with heap := pushCells (s.heap.push { cls := .type "dict",data := .dict #[] }) scope.names }) :
   wpAny M A (newFunctionEnv scope globals cl [] qual none .none (some env)) Q E s := by
 simp only [newFunctionEnv,Option.isSome_some,if_true]
 refine wpAny_bind (wpAny_alloc ?_)
 refine wpAny_bind (wpAny_layCells _ (fun name kind cells => by cases hkc : kind == NameKind.cell <;> simp [hkc]) _ _ _ _ ?_)
 rw [show ({ s with heap := s.heap.push { cls := .type "dict",data := .dict #[] } } : Shared).heap.objs.size = s.heap.objs.size + 1 from Heap.size_push ..]
 simp only [List.forIn_nil]
 exact wpAny_bind (wpAny_pure (wpAny_pure hQ))
structure BlkS (scX scope : Scope) (N' own cp : List Str) (ixs : List Nat) : Prop where
 kind : scope.kind = .function
 nm : ∀ y ∈ scope.names,scope.names.lookup y.1 = some y.2
 free : ∀ y ∈ scope.names,y.2 = .free -> scX.names.lookup y.1 = some .cell ∨ scX.names.lookup y.1 = some .free
 cap : ∀ x ∈ cp,scope.names.lookup x = some .free
 ix : ixs.map (fun i => N'[i]?) = cp.map some
 nd : (own ++ cp).Nodup
def stB (own : List Str) (ix : List Nat) (σ : St) : St := own.map (fun _ => none) ++ ix.map fun i => (σ[i]?).getD none
end L2
namespace L2
open PySem PySem.Spec PyProof.Rows
section
variable {X : Cx} {pins : List (Addr × Obj)} {σ : St} {H : Hp} {s : Shared}
abbrev hpB (s : Shared) (scope : Scope) : Heap := pushCells (s.heap.push { cls := .type "dict",data := .dict #[] }) scope.names
abbrev clB (X : Cx) (s : Shared) (scope : Scope) : List (Str × Addr) := cellsFrom (s.heap.objs.size + 1) scope.names (closOf X.env scope.names [])
abbrev biB (X : Cx) (pins : List (Addr × Obj)) (s : Shared) (H : Hp) (scope : Scope) (fp : List Addr) : BI := ⟨clB X s scope,s.heap.objs.size,s,H,fp,pins⟩
theorem hpB_keeps (s : Shared) (scope : Scope) (b : Addr) (o : Obj) (e : s.heap.get? b = some o) : (hpB s scope).get? b = some o := pushCells_keeps _ _ b o (Heap.get?_push_of_some _ e)
theorem ownB_ok (s : Shared) (scope : Scope) : CellsOk (hpB s scope) (s.heap.objs.size + 1) (cellsFrom (s.heap.objs.size + 1) scope.names []) := by
 have ok := cellsFrom_ok scope.names (s.heap.push { cls := .type "dict",data := .dict #[] }) (s.heap.objs.size + 1) [] ⟨fun _ _ hm => (nomatch hm),List.Pairwise.nil⟩ (by rw [Heap.size_push]; exact Nat.le_refl _)
 rw [Heap.size_push] at ok
 exact ok
theorem clB_look {scX scope : Scope} {N' own cap : List Str} {ix : List Nat} (S : BlkS scX scope N' own cap ix) (hX : X.env.scope = scX) (I : Inv X pins σ H s) {x : Str} {c : Addr} (h : (clB X s scope).lookup x = some c) :
   ((x,c) ∈ cellsFrom (s.heap.objs.size + 1) scope.names [] /\ s.heap.objs.size + 1 <= c /\ scope.names.lookup x = some .cell) ∨ (X.env.cells.lookup x = some c /\ scope.names.lookup x = some .free) := by
 have h' : (cellsFrom (s.heap.objs.size + 1) scope.names (closOf X.env scope.names [])).lookup x = some c := h
 rw [cellsFrom_split,lookup_append] at h'
 cases e : (cellsFrom (s.heap.objs.size + 1) scope.names []).lookup x with
 | some c' =>
   rw [e] at h'
   cases h'
   have m := PySem.mem_of_lookup e
   refine .inl ⟨m,((ownB_ok s scope).empty _ _ m).2,?_⟩
   rcases cellsFrom_kind _ _ _ m with z | z
   . exact nomatch z
   . exact S.nm _ z
 | none =>
   rw [e] at h'
   rcases closOf_look _ _ h' with z | ⟨z,ec⟩
   . exact nomatch z
   . have hf := S.free _ z rfl
     rw [<- hX] at hf
     obtain ⟨c',e'⟩ := I.ok.has x hf
     rw [e'] at ec
     exact .inr ⟨by rw [e',ec]; rfl,S.nm _ z⟩
theorem clB_free {scX scope : Scope} {N' own cap : List Str} {ix : List Nat} (S : BlkS scX scope N' own cap ix) (hX : X.env.scope = scX) (I : Inv X pins σ H s) {x : Str} (hx : scope.names.lookup x = some .free) :
   ∃ c,X.env.cells.lookup x = some c /\ (clB X s scope).lookup x = some c := by
 have m := PySem.mem_of_lookup hx
 have hf := S.free _ m rfl
 rw [<- hX] at hf
 obtain ⟨c,e⟩ := I.ok.has x hf
 refine ⟨c,e,?_⟩
 have n1 : (cellsFrom (s.heap.objs.size + 1) scope.names []).lookup x = none := lookup_none_of fun c' hc' => by
   rcases cellsFrom_kind _ _ _ hc' with z | z
   . exact nomatch z
   . have := S.nm _ z
     rw [hx] at this
     cases this
 obtain ⟨c',e'⟩ := closOf_has (env := X.env) (x := x) scope.names [] (.inl m)
 show (cellsFrom (s.heap.objs.size + 1) scope.names (closOf X.env scope.names [])).lookup x = some c
 rw [cellsFrom_split,lookup_append,n1]
 show (closOf X.env scope.names []).lookup x = some c
 rcases closOf_look _ _ e' with z | ⟨_,z⟩
 . exact nomatch z
 . rw [e',z,e]; rfl
theorem kindB {scope sc : Scope} {x : Str} : (relabelS scope sc).names.lookup x = (scope.names.lookup x).map fun k => if (k == NameKind.free && sc.kind == .function && sc.names.lookup x == some .cell) then NameKind.cell else k := relabelS_look scope.names
theorem locB {scX scope : Scope} {own cap : List Str} {ix : List Nat} (S : BlkS scX scope X.N own cap ix) (hX : X.env.scope = scX) (I : Inv X pins σ H s) {h' : Heap} {m : Str -> Option Value} (keep : ∀ x c v,X.env.cells.lookup x = some c -> s.heap.IsCell c v -> h'.IsCell c v)
   (i : Nat) (x : Str) (v : V) (e1 : (own ++ cap)[i]? = some x) (e2 : (stB own ix σ)[i]? = some (some v)) : ∃ u,RelV v u /\ Look (envB scope (clB X s scope) s.heap.objs.size X.env) h' m x u := by
 have hi : ¬ i < own.length := fun hi => by
   unfold stB at e2
   rw [List.getElem?_append_left (by simpa using hi),List.getElem?_map] at e2
   cases q : own[i]? with
   | none => rw [q] at e2; cases e2
   | some y => rw [q] at e2; cases e2
 have e1' : cap[i - own.length]? = some x := by
   rw [List.getElem?_append_right (by omega)] at e1
   exact e1
 have e2' : ∃ k,ix[i - own.length]? = some k /\ σ[k]? = some (some v) := by
   unfold stB at e2
   rw [List.getElem?_append_right (by simpa using Nat.le_of_not_lt hi),List.getElem?_map,List.length_map] at e2
   cases q : ix[i - own.length]? with
   | none => rw [q] at e2; cases e2
   | some k =>
     rw [q] at e2
     have e3 : (σ[k]?).getD none = some v := Option.some.inj e2
     cases q2 : σ[k]? with
     | none => rw [q2] at e3; cases e3
     | some z =>
       rw [q2] at e3
       exact ⟨k,rfl,by rw [q2,show z = some v from e3]⟩
 obtain ⟨k,hk,hv⟩ := e2'
 have hN : X.N[k]? = some x := by
   have z := congrArg (fun l => l[i - own.length]?) S.ix
   simp only [List.getElem?_map] at z
   rw [hk,e1'] at z
   exact Option.some.inj z
 have hx := S.cap x (List.mem_of_getElem? e1')
 have m' := PySem.mem_of_lookup hx
 have hf := S.free _ m' rfl
 rw [<- hX] at hf
 obtain ⟨m0,_,hl⟩ := I.loc
 obtain ⟨u,r,l⟩ := hl k x v hN hv (hf.elim (fun z => .inr (.inl z)) fun z => .inr (.inr z))
 refine ⟨u,r,?_⟩
 have l' : ∃ c,X.env.cells.lookup x = some c /\ s.heap.IsCell c (some u) := by
   rcases l with ⟨z,_⟩ | ⟨_,c,z,q⟩
   . rcases hf with y | y
     . rw [show X.env.kindOf x = some .cell from y] at z; cases z
     . rw [show X.env.kindOf x = some .free from y] at z; cases z
   . exact ⟨c,z,q⟩
 obtain ⟨c,ec,hc⟩ := l'
 obtain ⟨c',ec',eb⟩ := clB_free S hX I hx
 rw [ec] at ec'
 cases ec'
 refine .inr ⟨?_,c,eb,keep x c _ ec hc⟩
 have kb : (envB scope (clB X s scope) s.heap.objs.size X.env).kindOf x = some (if (NameKind.free == NameKind.free && X.env.scope.kind == .function && X.env.scope.names.lookup x == some .cell) then NameKind.cell else NameKind.free) := by
   show (relabelS scope X.env.scope).names.lookup x = _
   rw [kindB,hx]; rfl
 rw [kb]
 by_cases q : (NameKind.free == NameKind.free && X.env.scope.kind == .function && X.env.scope.names.lookup x == some .cell) = true
 . rw [if_pos q]; exact .inl rfl
 . rw [if_neg q]; exact .inr rfl
theorem blk_inv {scX scope : Scope} {own cap : List Str} {ix : List Nat} {fp : List Addr} (S : BlkS scX scope X.N own cap ix) (hX : X.env.scope = scX) (I : Inv X pins σ H s) (hf : ∀ b ∈ fp,FpOk X pins H b) (ho : ∀ b ∈ fp,∃ o,s.heap.get? b = some o) :
   Inv (blk X scope (own ++ cap) (biB X pins s H scope fp)) [] (stB own ix σ) H { s with heap := hpB s scope } := by
 have kp := hpB_keeps s scope
 have own1 := ownB_ok s scope
 have ltC : ∀ x c,X.env.cells.lookup x = some c -> c < s.heap.objs.size := fun x c e => by
   obtain ⟨v,o,e',_⟩ := I.cell x c e
   exact Heap.lt_size e'
 have ltF : ∀ b ∈ fp,b < s.heap.objs.size := fun b hb => let ⟨_,e⟩ := ho b hb; Heap.lt_size e
 have nstk : ∀ b,b ≠ X.env.locals -> b ∉ X.fs -> b ∉ frs X.stack := fun b h1 h2 hb => by
   rcases List.mem_cons.mp (I.stkSub b hb) with e | e
   . exact h1 e
   . exact h2 e
 refine ⟨⟨I.ok.mod,S.kind,I.ok.glob,I.ok.blt,Nat.le_refl _,fun x y c h1 h2 => ?_,fun x hx => ?_,fun x c hx h => ?_,I.ok.hd,I.ok.frames,.inl rfl,fun b hb => ⟨?_,fun x c h => ?_⟩,I.bs,Nat.le_trans I.ok.bsz I.sz,fun b o e hb => ?_,fun b hb => ?_,I.stack,I.stkFree⟩,
   rfl,I.bare,Un.kept kp,⟨fun _ => none,?_,fun i x v e1 e2 _ => locB S hX I (fun x c v _ hc => hc.keeps kp) i x v e1 e2⟩,fun x c h => ?_,I.hok.fresh (Nat.le_refl _),fun x c h => ?_,fun p hp => ?_,I.hok.kept kp,?_⟩
 . rcases clB_look S hX I h1 with ⟨m1,l1,_⟩ | ⟨m1,_⟩ <;> rcases clB_look S hX I h2 with ⟨m2,l2,_⟩ | ⟨m2,_⟩
   . exact name_of_addr own1.apart m1 m2
   . exact absurd (Nat.lt_of_lt_of_le (ltC _ _ m2) (Nat.le_of_succ_le l1)) (Nat.lt_irrefl _)
   . exact absurd (Nat.lt_of_lt_of_le (ltC _ _ m1) (Nat.le_of_succ_le l2)) (Nat.lt_irrefl _)
   . exact I.ok.inj x y c m1 m2
 . have hx' : (relabelS scope X.env.scope).names.lookup x = some .cell ∨ (relabelS scope X.env.scope).names.lookup x = some .free := hx
   rw [kindB] at hx'
   cases q : scope.names.lookup x with
   | none => rw [q] at hx'; rcases hx' with z | z <;> cases z
   | some k =>
     rw [q] at hx'
     cases k with
     | free => obtain ⟨c,_,e⟩ := clB_free S hX I q; exact ⟨c,e⟩
     | cell =>
       obtain ⟨c,e⟩ := cell_has (sc := scope) (n := s.heap.objs.size + 1) q
       refine ⟨c,?_⟩
       show (cellsFrom (s.heap.objs.size + 1) scope.names (closOf X.env scope.names [])).lookup x = some c
       rw [cellsFrom_split,lookup_append,e]
     | _ => rcases hx' with z | z <;> cases z
 . have hx' : (scope.names.lookup x == some .cell) = true := hx
   rcases clB_look S hX I h with ⟨_,l1,_⟩ | ⟨_,z⟩
   . show s.heap.objs.size <= c; omega
   . rw [z] at hx'; exact absurd hx' (by decide)
 . exact Nat.ne_of_lt (ltF b hb)
 . rcases clB_look S hX I h with ⟨_,l1,_⟩ | ⟨z,_⟩
   . intro z; rw [z] at l1; exact absurd (Nat.lt_of_lt_of_le (ltF b hb) (Nat.le_of_succ_le l1)) (Nat.lt_irrefl _)
   . exact (hf b hb).2.2.2.2.1 x c z
 . rcases (hf b hb).2.2.2.1 with z | z
   . exact I.ok.noex b o e z
   . exact absurd (Nat.lt_of_lt_of_le (Nat.lt_of_lt_of_le (Heap.lt_size e) I.ok.bsz) z) (Nat.lt_irrefl _)
 . exact nstk b (hf b hb).2.1 (hf b hb).2.2.1
 . exact (Heap.Ns.new s.heap (.type "dict")).keeps (pushCells_keeps _ _)
 . rcases clB_look S hX I h with ⟨m1,_,_⟩ | ⟨z,_⟩
   . exact ⟨none,(own1.empty _ _ m1).1⟩
   . obtain ⟨v,q⟩ := I.cell x c z
     exact ⟨v,q.keeps kp⟩
 . rcases clB_look S hX I h with ⟨_,l1,_⟩ | ⟨z,_⟩
   . exact I.hok.fresh (by omega)
   . exact I.freeC x c z
 . have hp' : p ∈ X.pn ++ pins := by
     rcases List.mem_append.mp hp with z | z
     . exact z
     . exact nomatch z
   obtain ⟨e,n,ne,nf,d⟩ := I.pin p hp'
   exact ⟨kp _ _ e,n,Nat.ne_of_lt (Heap.lt_size e),nstk _ ne nf,d⟩
 . unfold stB
   show (own.map (fun _ => (none : Option V)) ++ ix.map fun i => (σ[i]?).getD none).length = (own ++ cap).length
   have z := congrArg List.length S.ix
   rw [List.length_map,List.length_map] at z
   rw [List.length_append,List.length_append,List.length_map,List.length_map,z]
theorem blk_reset {scX scope : Scope} {own cap : List Str} {ix : List Nat} {fp : List Addr} {pl : List (Addr × Obj)} {σ' : St} {H' : Hp} {s' : Shared} (S : BlkS scX scope X.N own cap ix) (hX : X.env.scope = scX) (I : Inv X pins σ H s) (hf : ∀ b ∈ fp,FpOk X pins H b)
   (J : Inv (blk X scope (own ++ cap) (biB X pins s H scope fp)) pl σ' H' s') : Inv (blk X scope (own ++ cap) (biB X pins s H scope fp)) pl (stB own ix σ) H' s' := by
 obtain ⟨m,hn,_⟩ := id J.loc
 refine ⟨J.ok,J.os,J.bare,J.base,⟨m,hn,fun i x v e1 e2 _ => locB S hX I (fun x c v ec hc => ?_) i x v e1 e2⟩,J.cell,J.free,J.freeC,J.pin,J.hok,?_⟩
 . obtain ⟨o,e,d⟩ := hc
   obtain ⟨sl,e'⟩ := J.base.any e (I.freeC x c ec) fun hb => (hf c hb).2.2.2.2.1 x c ec rfl
   exact ⟨_,e',d⟩
 . have z := congrArg List.length S.ix
   rw [List.length_map,List.length_map] at z
   show (stB own ix σ).length = (own ++ cap).length
   unfold stB
   rw [List.length_append,List.length_append,List.length_map,List.length_map,z]
theorem blk_out {scope : Scope} {own cap : List Str} {fp : List Addr} {σ' : St} {H' : Hp} {s' : Shared} {h' : Heap} (I : Inv X pins σ H s) (hf : ∀ b ∈ fp,FpOk X pins H b)
   (J : Inv (blk X scope (own ++ cap) (biB X pins s H scope fp)) [] σ' H' s') (hs : Heap.SameBut s.heap.objs.size s'.heap h') : Inv X pins σ H' { s' with heap := h' } := by
 have I1 : Inv X pins σ H' s' := I.call' (ch := fp) J.os J.base J.hok J.bare fun b hb => ⟨(hf b hb).2.2.2.1,(hf b hb).2.1,(hf b hb).2.2.2.2.1,(hf b hb).2.2.2.2.2⟩
 have n1 : s.heap.objs.size ≠ X.env.locals := Nat.ne_of_gt I.lt
 refine I1.turned (it := s.heap.objs.size) (t' := s'.toks) (fun b o hb e => (hs.2 b hb).trans e) J.free n1 (.inr I.sz) (fun x c e z => ?_) fun p hp z => ?_
 . obtain ⟨v,o,e',_⟩ := I.cell x c e
   exact absurd z (Nat.ne_of_lt (Heap.lt_size e'))
 . exact absurd z (Nat.ne_of_lt (Heap.lt_size (I.pin p hp).1))
end
def PIf (X : Cx) (ifs : List Expr) (t : TT) : Prop :=
 ∀ (pins : List (Addr × Obj)) (s : Shared) (σ : St) (H : Hp) (Q : Bool -> Hp -> Prop),Inv X pins σ H s -> t σ H Q ->
   wpAny (model X.prog X.w) X.A (forIn ifs true fun c r => if r = true then do let ok <- isTrue c X.env (eval c X.env); pure (ForInStep.yield ok) else pure (ForInStep.yield r)) (TP X pins σ Q) X.xe s
def tYes : TT := fun _ H Q => Q true H
theorem pif_nil {X : Cx} : PIf X [] tYes := fun _ _ _ H _ I h => wpAny_tests_nil ⟨H,I,h⟩
def CTurn (J : It) (g : TG) (tt : TT) (act : St -> Hp -> (Hp -> Prop) -> Prop) (σ0 : St) (End : Hp -> Prop) (W : Nat -> Nat -> Hp -> Prop) : Prop :=
 ∀ i m H,W i m H -> (J.stop i H /\ End H) ∨ (J.go i H /\ ∀ x H',J.yld i H x H' -> g x σ0 H' fun σ2 H2 => tt σ2 H2 fun b H3 =>
   if b = true then act σ2 H3 fun H4 => ∃ m',m' < m /\ W (i + 1) m' H4 else ∃ m',m' < m /\ W (i + 1) m' H3)
def aPut (D : Addr) (te : TE) : St -> Hp -> (Hp -> Prop) -> Prop := fun σ H R => te σ H fun y H4 => ∃ zs,H4 D = some (.lst zs) /\ zs.length < sizeLine /\ R (upd H4 D (.lst (zs ++ [y])))
def tComp (own : List Str) (ix : List Nat) (wi : TI) (g : BI -> TG) (tt : BI -> TT) (te : BI -> TE) : TE := fun σ H Q => wi σ H fun J H1 => ∀ D,H1 D = none ->
 ∃ W : Nat -> Nat -> Hp -> Prop,(∃ m,W 0 m (upd H1 D (.lst []))) /\ ∀ b,CTurn J (g b) (tt b) (aPut D (te b)) (stB own ix σ) (fun H' => Q (.ref D) H') W
section
variable {X : Cx} {tg iter elt : Expr} {ifs : List Expr} {scope scX : Scope} {pos : Pos} {own cap : List Str} {ix : List Nat} {wi : TI} {g : BI -> TG} {tt : BI -> TT} {te : BI -> TE}
theorem comp_loop {pins : List (Addr × Obj)} {σ : St} {H : Hp} {s : Shared} {J : It} {fp : List Addr} {it D : Addr} {tn : Nat -> Heap -> Prop} {End : Hp -> Prop} {W : Nat -> Nat -> Hp -> Prop} {m0 : Nat} {s4 : Shared}
   (S : BlkS scX scope X.N own cap ix) (hX : X.env.scope = scX) (I : Inv X pins σ H s) (hf : ∀ b ∈ fp,FpOk X pins H b) (hc : X.calm = true) (T : Turn X.prog X.w X.K tg J fp it tn)
   (hg : PG (blk X scope (own ++ cap) (biB X pins s H scope fp)) tg (g (biB X pins s H scope fp))) (ht : PIf (blk X scope (own ++ cap) (biB X pins s H scope fp)) ifs (tt (biB X pins s H scope fp)))
   (he : PE (blk X scope (own ++ cap) (biB X pins s H scope fp)) elt (te (biB X pins s H scope fp)))
   (hW : CTurn J (g (biB X pins s H scope fp)) (tt (biB X pins s H scope fp)) (aPut D (te (biB X pins s H scope fp))) (stB own ix σ) End W)
   (I4 : Inv (blk X scope (own ++ cap) (biB X pins s H scope fp)) [] (stB own ix σ) H s4) (st4 : tn 0 s4.heap) (w0 : W 0 m0 H) :
   codeAny (model X.prog X.w) X.A (.compLoop (.ListComp elt [⟨tg,iter,ifs,0⟩] scope pos) 0 (.ref it) (.ref D) (envB scope (clB X s scope) s.heap.objs.size X.env))
     (fun r s' => ∃ H' σ',r = .ok .next /\ Inv (blk X scope (own ++ cap) (biB X pins s H scope fp)) [] σ' H' s' /\ End H') s4 := by
 have stat : ∀ {H' : Hp} {pl : List (Addr × Obj)},(∀ b ∈ fp,H' b = none) -> (∀ p ∈ pl,p.1 ∉ fp) -> ∀ b ∈ fp,FpOk (blk X scope (own ++ cap) (biB X pins s H scope fp)) [] H' b := fun hn _ b hb => by
   refine ⟨hn b hb,(I4.ok.exf b hb).1,I4.ok.exfs b hb,.inl hb,(I4.ok.exf b hb).2,fun p hp => ?_⟩
   have hp' : p ∈ X.pn ++ pins := by
     rcases List.mem_append.mp hp with z | z
     . exact z
     . exact nomatch z
   exact (hf b hb).2.2.2.2.2 p hp'
 refine codeAny_loop rfl (fun n s' => ∃ i H',Inv (blk X scope (own ++ cap) (biB X pins s H scope fp)) [] (stB own ix σ) H' s' /\ tn i s'.heap /\ (∀ b ∈ fp,H' b = none) /\ W i n H') ?_ m0 ⟨0,H,I4,st4,fun b hb => (hf b hb).1,w0⟩
 rintro n s3 ⟨i,H3,I3,st3,fr3,w3⟩
 show wpAny _ X.A ((compTurn (.ListComp elt [⟨tg,iter,ifs,0⟩] scope pos) 0 (.ref it) (.ref D) (envB scope (clB X s scope) s.heap.objs.size X.env)).onRaise (fun x => do noteFrame x (envB scope (clB X s scope) s.heap.objs.size X.env); theTreesLotGoes x)) _ _ s3
 refine wpAny_noted ?_
 rw [compTurn_list]
 have st0 := stat (pl := []) fr3 (fun _ z => nomatch z)
 rcases hW i n H3 w3 with ⟨stop,qe⟩ | ⟨go,step⟩
 . refine wpAny_bind (wpAny_standAt (wpAny_bind (thn (T.done (blk X scope (own ++ cap) (biB X pins s H scope fp)) rfl rfl rfl hc i [] s3 _ H3 _ I3 st0 st3 stop) fun r s5 ⟨hr,I5⟩ => ?_)))
   subst hr
   exact wpAny_pure ⟨H3,_,rfl,I5,qe⟩
 . refine wpAny_bind (wpAny_standAt (wpAny_bind (thn (T.item (blk X scope (own ++ cap) (biB X pins s H scope fp)) rfl rfl rfl hc i [] s3 _ H3 _ I3 st0 st3 go) fun r s5 ⟨u,hr,h5⟩ => ?_)))
   subst hr
   refine wpAny_bind (thn h5 fun _ s6 ⟨x,H6,I6,r6,y6,st6,fr6⟩ => ?_)
   have I6' := I6.pinned (stat (pl := []) fr6 (fun _ z => nomatch z)) (T.obj _ _ st6)
   refine wpAny_bind (wpAny_mono (hg _ s6 _ H6 x u _ I6' r6 (step x H6 y6)) (fun _ s7 ⟨σ7,H7,I7,q7⟩ => ?_) fun _ _ f => f.elim)
   refine wpAny_bind (wpAny_mono (ht _ s7 σ7 H7 _ I7 q7) (fun ok s8 ⟨H8,I8,q8⟩ => ?_) fun _ _ f => f.elim)
   have again : ∀ {σ9 : St} {H9 : Hp} {s9 : Shared} {m' : Nat},Inv (blk X scope (own ++ cap) (biB X pins s H scope fp)) ([] ++ pinsAt fp s6.heap) σ9 H9 s9 -> m' < n -> W (i + 1) m' H9 ->
       ∃ m,m < n /\ ∃ i H',Inv (blk X scope (own ++ cap) (biB X pins s H scope fp)) [] (stB own ix σ) H' s9 /\ tn i s9.heap /\ (∀ b ∈ fp,H' b = none) /\ W i m H' := fun {σ9 H9 s9 m'} I9 hm w9 => by
     refine ⟨m',hm,i + 1,H9,blk_reset S hX I hf I9.unpinned,T.keep _ _ _ st6 fun b hb o e => (I9.pin (b,o) (List.mem_append_right _ (List.mem_append_right _ (mem_pinsAt hb e)))).1,fun b hb => ?_,w9⟩
     obtain ⟨o,e,d⟩ := T.obj _ _ st6 b hb
     exact (I9.pin (b,o) (List.mem_append_right _ (List.mem_append_right _ (mem_pinsAt hb e)))).2.1
   cases ok with
   | false =>
     obtain ⟨m',hm,w9⟩ := q8
     exact wpAny_pure ⟨rfl,again I8 hm w9⟩
   | true =>
     refine wpAny_bind (wpAny_bind (wpAny_mono (he _ s8 σ7 H8 _ I8 q8) (fun y s9 ⟨v,H9,I9,r9,zs,hD,hz,m',hm,w9⟩ => ?_) fun _ _ f => f.elim))
     refine wpAny_bind (wpAny_mono (mt_append (X := blk X scope (own ++ cap) (biB X pins s H scope fp)) _ s9 σ7 H9 (.ref D) [v] (.ref D) [y] (fun _ H' => ∃ m',m' < n /\ W (i + 1) m' H') I9 rfl (.cons r9 .nil) ⟨D,zs,v,rfl,rfl,hD,hz,m',hm,w9⟩) (fun _ s10 ⟨_,H10,I10,_,m'',hm',w10⟩ => ?_) fun _ _ f => f.elim)
     exact wpAny_pure (wpAny_pure ⟨rfl,again I10 hm' w10⟩)
theorem comp_enter {pins : List (Addr × Obj)} {σ : St} {H : Hp} {s : Shared} {Q : VK} {use : Option (Value -> Sem Unit)} {Q' : Value -> Shared -> Prop} (hc : X.calm = true) (hX : X.env.scope = scX) (S : BlkS scX scope X.N own cap ix) (hi : PI X tg iter wi)
   (hg : ∀ b,PG (blk X scope (own ++ cap) b) tg (g b)) (ht : ∀ b,PIf (blk X scope (own ++ cap) b) ifs (tt b)) (he : ∀ b,PE (blk X scope (own ++ cap) b) elt (te b))
   (hs : ∀ x,foldedSetIterable iter X.env x = pure x) (I : Inv X pins σ H s) (h : tComp own ix wi g tt te σ H Q)
   (out : ∀ (D C : Addr) (H' : Hp) (s' : Shared),Q (.ref D) H' -> (∃ m,s'.heap.Ns C m) -> FpOk X pins H' C -> (∀ h',Heap.SameBut C s'.heap h' -> Inv X pins σ H' { s' with heap := h' }) ->
     compPost (model X.prog X.w) X.A X.xe use Q' (.ref D) C (.ok .next) s') :
   wpAny (model X.prog X.w) X.A (comprehension (.ListComp elt [⟨tg,iter,ifs,0⟩] scope pos) scope X.env (firstIterPos [⟨tg,iter,ifs,0⟩] pos) (newList []) false (eval iter X.env) use) Q' X.xe s := by
 have hclos := closureFor_eq (scope := scope) (env := X.env) fun y hy hk => by
   have hf := S.free y hy hk
   rw [<- hX] at hf
   exact I.ok.has y.1 hf
 refine wpAny_comprehension_free (use := use) rfl hs hclos S.kind (fun y hy hk => by rw [S.nm y hy,hk]) (thn (hi pins s σ H _ I h) fun v s1 h1 => thn h1 fun itv s2 h2 => ?_)
 obtain ⟨it,fp,tn,J,H2,e,I2,T,st2,f2,hR⟩ := h2
 subst e
 refine wpAny_newObj_type ?_
 obtain ⟨W,⟨m0,w0⟩,hW⟩ := hR s2.heap.objs.size I2.fresh
 have I3 : Inv X pins σ (upd H2 s2.heap.objs.size (.lst [])) { s2 with heap := s2.heap.push { cls := .type "list",data := .seq ([] : List Value).toArray } } := I2.lnew (t' := s2.toks) (its := []) .nil (Nat.zero_le _)
 have ltF : ∀ b ∈ fp,b < s2.heap.objs.size := fun b hb => let ⟨_,e,_⟩ := T.obj _ _ st2 b hb; Heap.lt_size e
 have f3 : ∀ b ∈ fp,FpOk X pins (upd H2 s2.heap.objs.size (.lst [])) b := fun b hb => ⟨by rw [upd_ne (Nat.ne_of_lt (ltF b hb))]; exact (f2 b hb).1,(f2 b hb).2⟩
 have st3 : tn 0 (s2.heap.push { cls := .type "list",data := .seq ([] : List Value).toArray }) := T.keep _ _ _ st2 fun b hb o e => Heap.get?_push_of_some _ e
 generalize hs3 : ({ s2 with heap := s2.heap.push { cls := .type "list",data := .seq ([] : List Value).toArray } } : Shared) = s3 at I3
 have st3' : tn 0 s3.heap := by rw [<- hs3]; exact st3
 have ob3 : ∀ b ∈ fp,∃ o,s3.heap.get? b = some o := fun b hb => let ⟨o,e,_⟩ := T.obj _ _ st3' b hb; ⟨o,e⟩
 have I4 := blk_inv S hX I3 f3 ob3
 have st4 : tn 0 (hpB s3 scope) := T.keep _ _ _ st3' fun b _ o e => hpB_keeps s3 scope b o e
 refine newEnv_blk ?_
 have loop := comp_loop (iter := iter) (pos := pos) S hX I3 f3 hc T (hg _) (ht _) (he _) (hW _) I4 st4 w0
 have fin : codeAny (model X.prog X.w) X.A (.compLoop (.ListComp elt [⟨tg,iter,ifs,0⟩] scope pos) 0 (.ref it) (.ref s2.heap.objs.size) (envB scope (clB X s3 scope) s3.heap.objs.size X.env))
     (compPost (model X.prog X.w) X.A X.xe use Q' (.ref s2.heap.objs.size) s3.heap.objs.size) { s3 with heap := hpB s3 scope } := codeAny_mono loop fun r s' ⟨H',σ',hr,J',q⟩ => by
   subst hr
   exact out _ _ H' s' q (let ⟨m,hn,_⟩ := J'.loc; ⟨m,hn⟩) (I3.fpOk (Nat.le_refl _) J'.free) fun h' hh => blk_out I3 f3 J' hh
 exact codeAny_compStart_list fin (T.self _ 0 _ _ _ st4 fin)
theorem pe_comp (hc : X.calm = true) (hX : X.env.scope = scX) (S : BlkS scX scope X.N own cap ix) (hi : PI X tg iter wi) (hg : ∀ b,PG (blk X scope (own ++ cap) b) tg (g b)) (ht : ∀ b,PIf (blk X scope (own ++ cap) b) ifs (tt b))
   (he : ∀ b,PE (blk X scope (own ++ cap) b) elt (te b)) (hs : ∀ x,foldedSetIterable iter X.env x = pure x := by intro _; rfl) :
   PE X (.ListComp elt [⟨tg,iter,ifs,0⟩] scope pos) (tComp own ix wi g tt te) := by
 intro pins s σ H Q I h
 rw [eval_ListComp]
 refine comp_enter (use := none) hc hX S hi hg ht he hs I h fun D C H' s' q hn _ hI => ?_
 obtain ⟨m,hn⟩ := hn
 exact ⟨m,hn,fun h' hh => ⟨.ref D,H',hI h' hh,rfl,q⟩⟩
theorem ps_setComp {i : Nat} {x : Str} {pos' spos : Pos} (hN : X.N.Nodup) (hx1 : X.N[i]? = some x) (hx : X.env.scope.names.lookup x = some .local) (hc : X.calm = true) (hX : X.env.scope = scX) (S : BlkS scX scope X.N own cap ix) (hi : PI X tg iter wi)
   (hg : ∀ b,PG (blk X scope (own ++ cap) b) tg (g b)) (ht : ∀ b,PIf (blk X scope (own ++ cap) b) ifs (tt b)) (he : ∀ b,PE (blk X scope (own ++ cap) b) elt (te b)) (hs : ∀ x,foldedSetIterable iter X.env x = pure x := by intro _; rfl)
   (hsw : swapsWith (.ListComp elt [⟨tg,iter,ifs,0⟩] scope pos) (some (.Name x pos')) spos.line X.env = pure true := by rfl) :
   PS X (.Assign [.Name x pos'] (.ListComp elt [⟨tg,iter,ifs,0⟩] scope pos) spos) (tAsg (tComp own ix wi g tt te) (gName i)) := by
 intro pins s σ H D I h
 rw [exec_Assign_Name_used _ _ _ _ hsw]
 refine wpAny_bind (wpAny_standAt (wpAny_bind ?_))
 show wpAny _ X.A (do let _ <- comprehension (.ListComp elt [⟨tg,iter,ifs,0⟩] scope pos) scope X.env _ (newList []) false (eval iter X.env) (some (assign (.Name x pos') X.env))) _ _ s
 refine wpAny_bind (wpAny_mono (comp_enter (use := some (assign (.Name x pos') X.env)) (Q' := fun _ s' => SP X pins D .next s') hc hX S hi hg ht he hs I h fun D1 C H' s' q hn fC hI => ?_) (fun _ s' hq => wpAny_pure (wpAny_pure hq)) fun _ _ e => e)
 obtain ⟨m,hn⟩ := hn
 have I0 : Inv X pins σ H' s' := by
   have z := hI s'.heap (Heap.SameBut.refl ..)
   exact z
 show wpAny _ X.A (assign (.Name x pos') X.env (.ref D1)) _ _ _
 refine wpAny_assign_Name (store_ok2 I0 hN hx1 (.inl hx) (show RelV (.ref D1) (.ref D1) from rfl) (fun s2 I2 ⟨a,sb,ha⟩ => ?_) (.inr hx))
 have na : C ≠ a := by
   rcases ha with e | e
   . rw [e]; exact fC.2.1
   . intro z; exact fC.2.2.2.2.1 x a e z.symm
 refine ⟨m,hn.sameBut sb na,fun h' hh => ?_⟩
 refine ⟨_,H',?_,q⟩
 exact I2.turned (it := C) (t' := s2.toks) (fun b o hb e => (hh.2 b hb).trans e) fC.1 fC.2.1 fC.2.2.2.1 fC.2.2.2.2.1 fC.2.2.2.2.2
end
end L2
namespace L2
open PySem PySem.Spec PyProof.Rows
def Its (x : Str) : It := ⟨fun i _ => i < x.cps.size,fun i H v H' => H' = H /\ ∃ c,x.cps[i]? = some c /\ v = .str ⟨#[c]⟩,fun i _ => x.cps.size <= i⟩
theorem turn_strA {P : Program} {w : World} {K : PySem.W.Frag} {tg : Expr} (it : Addr) (x : Str) (t : Tok) : Turn P w K tg (Its x) [it] it (fun i h => h.IsStrIter it "str_ascii_iterator" x t i) where
 mem := by simp
 obj := fun i h st b hb => by
   have e : b = it := by simpa using hb
   subst e
   obtain ⟨o,e,c,d⟩ := st
   exact ⟨o,e,fun v z => by rw [d] at z; cases z⟩
 keep := fun i h h' st k => let ⟨o,e,r⟩ := st; ⟨o,k it (by simp) o e,r⟩
 item := by
   intro X hP hw hK hc i pins s σ H E I hf st hg
   subst hP hw hK
   have hg' : i < x.cps.size := hg
   obtain ⟨f0,f1,f2,f3,f4,f5⟩ := hf it (by simp)
   refine wpAny_pyNext_ascii_item st (c := x.cps[i]) (by simp [hg']) fun h' st' sb => ?_
   have I1 : Inv X pins σ H { s with heap := h',toks := s.toks + 1 } := I.turned (fun b o hb e => (sb.2 b hb).trans e) f0 f1 f3 f4 f5
   obtain ⟨o,e,c,d⟩ := id st'
   exact ⟨_,rfl,go_of (s := { s with heap := h',toks := s.toks + 1 }) e c d (by decide) ⟨.str ⟨#[x.cps[i]]⟩,H,I1,⟨_,rfl⟩,⟨rfl,_,by simp [hg'],rfl⟩,st',fun b hb => (hf b hb).1⟩⟩
 done := by
   intro X hP hw hK hc i pins s σ H E I hf st hg
   subst hP hw hK
   have hg' : x.cps.size <= i := hg
   obtain ⟨f0,f1,f2,f3,f4,f5⟩ := hf it (by simp)
   exact wpAny_pyNext_ascii_end (I.ok.hd hc) st (by simp [hg']) fun h' eb => ⟨rfl,I.turned (t' := s.toks) (fun b o hb e => eb b o hb e) f0 f1 f3 f4 f5⟩
 self := fun _ _ _ _ _ st h => wpAny_pyIter_striter_ascii st h
theorem turn_strW {P : Program} {w : World} {K : PySem.W.Frag} {tg : Expr} (it : Addr) (x : Str) (t : Tok) : Turn P w K tg (Its x) [it] it (fun i h => h.IsStrIter it "str_iterator" x t i) where
 mem := by simp
 obj := fun i h st b hb => by
   have e : b = it := by simpa using hb
   subst e
   obtain ⟨o,e,c,d⟩ := st
   exact ⟨o,e,fun v z => by rw [d] at z; cases z⟩
 keep := fun i h h' st k => let ⟨o,e,r⟩ := st; ⟨o,k it (by simp) o e,r⟩
 item := by
   intro X hP hw hK hc i pins s σ H E I hf st hg
   subst hP hw hK
   have hg' : i < x.cps.size := hg
   obtain ⟨f0,f1,f2,f3,f4,f5⟩ := hf it (by simp)
   refine wpAny_pyNext_wide_item st (c := x.cps[i]) (by simp [hg']) fun h' st' sb => ?_
   have I1 : Inv X pins σ H { s with heap := h',toks := s.toks + 1 } := I.turned (fun b o hb e => (sb.2 b hb).trans e) f0 f1 f3 f4 f5
   obtain ⟨o,e,c,d⟩ := id st'
   exact ⟨_,rfl,go_of (s := { s with heap := h',toks := s.toks + 1 }) e c d (by decide) ⟨.str ⟨#[x.cps[i]]⟩,H,I1,⟨_,rfl⟩,⟨rfl,_,by simp [hg'],rfl⟩,st',fun b hb => (hf b hb).1⟩⟩
 done := by
   intro X hP hw hK hc i pins s σ H E I hf st hg
   subst hP hw hK
   have hg' : x.cps.size <= i := hg
   obtain ⟨f0,f1,f2,f3,f4,f5⟩ := hf it (by simp)
   exact wpAny_pyNext_wide_end (I.ok.hd hc) st (by simp [hg']) fun h' eb => ⟨rfl,I.turned (t' := s.toks) (fun b o hb e => eb b o hb e) f0 f1 f3 f4 f5⟩
 self := fun _ _ _ _ _ st h => wpAny_pyIter_striter_wide st h
def iStr (tl : TE) : TI := fun σ H R => tl σ H fun x H1 => ∃ z,x = .str z /\ R (Its z) H1
theorem pi_str {X : Cx} {tg l : Expr} {tl : TE} (hl : PE X l tl) : PI X tg l (iStr tl) := by
 intro pins s σ H R I h
 refine thn (hl pins s σ H _ I h) fun v s1 ⟨x,H1,I1,r1,q1⟩ => ?_
 obtain ⟨z,e,q⟩ := q1
 subst e
 obtain ⟨t,rfl⟩ := r1
 have fp : ∀ b ∈ [s1.heap.objs.size],FpOk X pins H1 b := fun b hb => by
   have e : b = s1.heap.objs.size := by simpa using hb
   subst e
   exact I1.fpOk (Nat.le_refl _) (I1.hok.fresh (Nat.le_refl _))
 cases ha : z.cps.all (· < 128)
 . exact wpAny_pyIter_wide ha ⟨s1.heap.objs.size,[s1.heap.objs.size],_,_,H1,rfl,I1.kept (t' := s1.toks) fun b o e => Heap.get?_push_of_some _ e,turn_strW _ z t,⟨_,Heap.get?_push_size _ rfl,rfl,rfl⟩,fp,q⟩
 . exact wpAny_pyIter_ascii ha ⟨s1.heap.objs.size,[s1.heap.objs.size],_,_,H1,rfl,I1.kept (t' := s1.toks) fun b o e => Heap.get?_push_of_some _ e,turn_strA _ z t,⟨_,Heap.get?_push_size _ rfl,rfl,rfl⟩,fp,q⟩
section
variable {X : Cx}
theorem op_le_str : OpR X (compareOp .LtE) (fun x y H Q => ∃ i j,x = .str i /\ y = .str j /\ Q (.bl (!decide (j.cps.toList < i.cps.toList))) H) := by
 intro pins s σ H x y v u Q I rx ry h
 obtain ⟨i,j,rfl,rfl,q⟩ := h
 obtain ⟨t,rfl⟩ := rx
 obtain ⟨t',rfl⟩ := ry
 exact PySem.P.le_str ⟨.bl _,H,I,rfl,q⟩
theorem parts_of {v : Value} {o : Option Int} (p : IsPart v o) : ∃ l : Option (Int × Tok),v = partValue l /\ l.map (·.1) = o := by
 cases p with
 | none => exact ⟨none,rfl,rfl⟩
 | int i t => exact ⟨some (i,t),rfl,rfl⟩
theorem sl_str : SlR X (fun x lo hi H Q => ∃ z,x = .str z /\ z.length <= sizeLine /\ Q (.str (Txt.slice z lo hi)) H) := by
 intro pins s σ H x v vl vu lo hi sl Q I rx hs pl pu h
 obtain ⟨z,rfl,hz,q⟩ := h
 obtain ⟨t,rfl⟩ := rx
 obtain ⟨l,e1,f1⟩ := parts_of pl
 obtain ⟨u,e2,f2⟩ := parts_of pu
 subst e1 e2 f1 f2
 refine ⟨"str",_,F.slot_str_getitem.lookup,typeIs_str _ _ _,wpAny_getItem_str_slice (l := l) (u := u) (st := none) hs rfl ?_⟩
 exact post_val_or_str ⟨Nat.le_trans (Txt.slice_le z _ _) hz,fun t' k => ⟨.str (Txt.slice z _ _),H,I.tok k,⟨t',rfl⟩,q⟩⟩
theorem strs_of : ∀ {ys : List Str} {us : List Value},Vals (ys.map V.str) us -> StrsAre us ys := by
 intro ys
 induction ys with
 | nil => intro us r; rw [List.map_nil] at r; cases r; exact .nil
 | cons y ys ih =>
   intro us r
   rw [List.map_cons] at r
   cases r with
   | cons r1 r2 =>
     obtain ⟨t,e⟩ := r1
     subst e
     exact .cons y t (ih r2)
theorem bools_of : ∀ {bs : List Bool} {us : List Value},Vals (bs.map V.bl) us -> LSm.BoolsAre us bs := by
 intro bs
 induction bs with
 | nil => intro us r; rw [List.map_nil] at r; cases r; exact .nil
 | cons b bs ih =>
   intro us r
   rw [List.map_cons] at r
   cases r with
   | cons r1 r2 =>
     have e : _ = Value.bool b := r1
     subst e
     exact .cons b (ih r2)
theorem call_all (hc : X.calm = true) : CallR X (.builtin "all") (fun xs H Q => ∃ (p : Addr) (bs : List Bool),xs = [.ref p] /\ SqL X.K H p (bs.map V.bl) /\ Q (.bl (bs.all id)) H) := by
 intro pins s σ H xs us Q I r h
 obtain ⟨p,bs,rfl,hq,q⟩ := h
 obtain ⟨u,rfl,ru⟩ := vals1 r
 cases ru
 obtain ⟨its,rv,pl,_⟩ := I.list hq
 have hb := bools_of rv
 have hl := pl.isList
 have hlt : p < s.heap.objs.size := by obtain ⟨_,e,_⟩ := hl; exact Heap.lt_size e
 refine call_all_walk (wpAny_pyIter_list hl ?_)
 refine ⟨s.heap.objs.size,[s.heap.objs.size,p],[s.heap.objs.size],its.toArray.size,_,_,fun i => (bs[i]?).getD true,rfl,Walks.list (A := X.A.in1) (I.ok.hd hc) _ p (Nat.ne_of_lt hlt) its.toArray,
   ⟨⟨_,Heap.get?_push_size _ rfl,rfl,rfl⟩,hl.push _⟩,fun i v s' Q' E' hP hQ => ?_,fun h' tk hk => ?_⟩
 . obtain ⟨b,e,rfl⟩ := hb.get i v (by simpa using hP)
   simp only [e,Option.getD_some] at hQ
   exact wpAny_truthy_bool hQ
 . have e : ((List.range its.toArray.size).all fun i => (bs[i]?).getD true) = bs.all id := by
     rw [List.size_toArray,hb.length]; exact LSm.range_all bs
   rw [e]
   exact ⟨.bl _,H,I.kept (LSm.kept_iter hk),rfl,q⟩
theorem call_isi : CallR X (.builtin "isinstance") (fun xs H Q => ∃ x n t b,xs = [x,.ty n] /\ TyOf X.K H x t /\ PySem.W.kitOne X.K t (.type n) = some b /\ Q (.bl b) H) := by
 intro pins s σ H xs us Q I r h
 obtain ⟨x,n,t,b,rfl,ty,e,q⟩ := h
 obtain ⟨u,w',rfl,rx,ry⟩ := vals2 r
 have ry' : w' = Value.type n := ry
 subst ry'
 exact isinst_ok I rx ty e fun tk => ⟨.bl b,H,I.tok tk,rfl,q⟩
mutual
inductive Dp (K : PySem.W.Frag) (H : Hp) : V -> PyData -> Prop
 | non : Dp K H .non .none
 | bl (b : Bool) : Dp K H (.bl b) (.bool b)
 | int (i : Int) : Dp K H (.int i) (.int i)
 | str (x : Str) : Dp K H (.str x) (.str x)
 | lst {a : Addr} {xs : List V} {ds : List PyData} : SqL K H a xs -> DpA K H xs ds -> Dp K H (.ref a) (.list ds)
 | tup {a : Addr} {xs : List V} {ds : List PyData} : SqT K H a xs -> DpA K H xs ds -> Dp K H (.ref a) (.tuple ds)
inductive DpA (K : PySem.W.Frag) (H : Hp) : List V -> List PyData -> Prop
 | nil : DpA K H [] []
 | cons {x : V} {xs : List V} {d : PyData} {ds : List PyData} : Dp K H x d -> DpA K H xs ds -> DpA K H (x :: xs) (d :: ds)
end
mutual
theorem Dp.reads {pins : List (Addr × Obj)} {σ : St} {H : Hp} {s : Shared} (I : Inv X pins σ H s) : ∀ {x : V} {d : PyData} {u : Value},Dp X.K H x d -> RelV x u -> ∃ as,Reads s.heap u d as
 | _,_,_,.non,r => by cases (show _ = Value.none from r); exact ⟨_,.none⟩
 | _,_,_,.bl b,r => by cases (show _ = Value.bool b from r); exact ⟨_,.bool b⟩
 | _,_,_,.int i,r => by obtain ⟨t,rfl⟩ := (show ∃ t,_ = Value.int i t from r); exact ⟨_,.int i t⟩
 | _,_,_,.str x,r => by obtain ⟨t,rfl⟩ := (show ∃ t,_ = Value.str x t from r); exact ⟨_,.str x t⟩
 | _,_,_,.lst (a := a) hq h,r => by
   cases (show _ = Value.ref a from r)
   obtain ⟨its,rv,pl,_⟩ := I.list hq
   obtain ⟨as,q⟩ := DpA.reads I h rv
   obtain ⟨o,ho,hc,n,hd⟩ := pl.isList
   exact ⟨_,.list ho hc hd (by simpa using q)⟩
 | _,_,_,.tup (a := a) hq h,r => by
   cases (show _ = Value.ref a from r)
   obtain ⟨its,rv,pl,_⟩ := I.tuple hq
   obtain ⟨as,q⟩ := DpA.reads I h rv
   obtain ⟨o,ho,hc,n,hd⟩ := pl
   exact ⟨_,.tuple ho hc hd (by simpa using q)⟩
theorem DpA.reads {pins : List (Addr × Obj)} {σ : St} {H : Hp} {s : Shared} (I : Inv X pins σ H s) : ∀ {xs : List V} {ds : List PyData} {us : List Value},DpA X.K H xs ds -> Vals xs us -> ∃ as,ReadsAll s.heap us ds as
 | _,_,_,.nil,r => by cases r; exact ⟨_,.nil⟩
 | _,_,_,.cons h1 h2,r => by
   cases r with
   | cons r1 r2 =>
     obtain ⟨as,q1⟩ := Dp.reads I h1 r1
     obtain ⟨bs,q2⟩ := DpA.reads I h2 r2
     exact ⟨_,.cons q1 q2⟩
end
def rEqD (K : PySem.W.Frag) : R2 := fun x y H Q => ∃ d e,Dp K H x d /\ Dp K H y e /\ SeqAt.shaped d = true /\ SeqAt.shaped e = true /\ Q (.bl (PyData.eqv d e)) H
def rNeD (K : PySem.W.Frag) : R2 := fun x y H Q => ∃ d e,Dp K H x d /\ Dp K H y e /\ SeqAt.shaped d = true /\ SeqAt.shaped e = true /\ Q (.bl (!PyData.eqv d e)) H
theorem op_eqD (hu : X.A.units + 64 < cLine) : OpR X (compareOp .Eq) (rEqD X.K) := by
 intro pins s σ H x y v u Q I rx ry h
 obtain ⟨d,e,hd,he,sd,se,q⟩ := h
 obtain ⟨as,ra⟩ := hd.reads I rx
 obtain ⟨bs,rb⟩ := he.reads I ry
 exact eq_dataH ra rb sd se hu ⟨.bl _,H,I,rfl,q⟩
theorem op_neD (hu : X.A.units + 64 < cLine) : OpR X (compareOp .NotEq) (rNeD X.K) := by
 intro pins s σ H x y v u Q I rx ry h
 obtain ⟨d,e,hd,he,sd,se,q⟩ := h
 obtain ⟨as,ra⟩ := hd.reads I rx
 obtain ⟨bs,rb⟩ := he.reads I ry
 exact ne_dataH ra rb sd se hu ⟨.bl _,H,I,rfl,q⟩
end
end L2
namespace L2
open PySem PySem.Spec PyProof.Rows
section
variable {X : Cx} {a b c : Expr} {ta tb tc : TE} {pos : Pos}
def tV (i : Nat) : TE := fun σ H Q => match σ[i]? with
 | some (some v) => Q v H
 | _ => False
theorem pV (i : Nat) {x : Str} {pos : Pos} (hN : X.N[i]? = some x := by rfl) (hv : Vis X.env.scope x := by first | exact Or.inl rfl | exact Or.inr (Or.inl rfl) | exact Or.inr (Or.inr rfl)) (hd : (x == ("__debug__" : Str)) = false := by decide)
   (hcd : (x == ("__classdict__" : Str)) = false := by decide) : PE X (.Name x pos) (tV i) := by
 intro pins s σ H Q I h
 refine pe_var hN hv hd hcd pins s σ H Q I ?_
 unfold tV at h
 cases e : σ[i]? with
 | none => rw [e] at h; exact h.elim
 | some o =>
   rw [e] at h
   cases o with
   | none => exact h.elim
   | some v => exact ⟨v,e,h⟩
def fI (g : Int -> Int -> V) : R2 := fun x y H Q => match x,y with
 | .int i,.int j => Q (g i j) H
 | _,_ => False
def fIc (C : Int -> Int -> Prop) (g : Int -> Int -> V) : R2 := fun x y H Q => match x,y with
 | .int i,.int j => C i j /\ Q (g i j) H
 | _,_ => False
theorem OpR.fI {f : Value -> Value -> Sem Value} {g : Int -> Int -> V} (h : OpR X f (rI0 g)) : OpR X f (fI g) := by
 intro pins s σ H x y v u Q I rx ry q
 refine h pins s σ H x y v u Q I rx ry ?_
 cases x <;> cases y <;> first | exact ⟨_,_,rfl,rfl,q⟩ | exact (show False from q).elim
theorem OpR.fIc {f : Value -> Value -> Sem Value} {C : Int -> Int -> Prop} {g : Int -> Int -> V} (h : OpR X f (rI C g)) : OpR X f (fIc C g) := by
 intro pins s σ H x y v u Q I rx ry q
 refine h pins s σ H x y v u Q I rx ry ?_
 cases x <;> cases y <;> first | exact ⟨_,_,rfl,rfl,q.1,q.2⟩ | exact (show False from q).elim
theorem oAdd : OpR X (binaryOp .Add) (fI fun i j => .int (i + j)) := op_add.fI
theorem oSub : OpR X (binaryOp .Sub) (fI fun i j => .int (i - j)) := op_sub.fI
theorem oMul : OpR X (binaryOp .Mult) (fIc CMul fun i j => .int (i * j)) := op_mul.fIc
theorem oMod : OpR X (binaryOp .Mod) (fIc (fun _ j => 0 < j) fun i j => .int (i % j)) := op_mod.fIc
def CDivL (_ j : Int) : Prop := 0 < j /\ j < 4611686018427387904
theorem op_fdivL : OpR X (binaryOp .FloorDiv) (rI CDivL fun i j => .int (i / j)) := opI fun i j _ _ _ _ _ hc q => by
 have h1 : (0 : Int) < j := hc.1
 have h2 : j < 4611686018427387904 := hc.2
 refine floordiv_int (by omega) (by rw [Int.fdiv_eq_ediv_of_nonneg i (by omega)]; exact q) (.inl (PyProof.noPylong_of_log2 ?_))
 have h3 : j.natAbs ≠ 0 := by omega
 have h4 : j.natAbs < 2 ^ 62 := by omega
 have := (Nat.log2_lt h3).mpr h4
 omega
theorem oDiv : OpR X (binaryOp .FloorDiv) (fIc CDivL fun i j => .int (i / j)) := op_fdivL.fIc
theorem oPow : OpR X (binaryOp .Pow) (fIc CPow fun i j => .int (i ^ j.toNat)) := op_pow.fIc
theorem oLt : OpR X (compareOp .Lt) (fI fun i j => .bl (decide (i < j))) := op_lt.fI
theorem oLe : OpR X (compareOp .LtE) (fI fun i j => .bl (decide (i <= j))) := op_le.fI
theorem oGt : OpR X (compareOp .Gt) (fI fun i j => .bl (decide (j < i))) := op_gt.fI
theorem oGe : OpR X (compareOp .GtE) (fI fun i j => .bl (decide (j <= i))) := op_ge.fI
theorem op_eqI : OpR X (compareOp .Eq) (rI0 fun i j => .bl (decide (i = j))) := opB0 fun _ _ _ _ _ _ _ q => eq_int (by rw [Bool.beq_eq_decide_eq]; exact q)
theorem oEq : OpR X (compareOp .Eq) (fI fun i j => .bl (decide (i = j))) := op_eqI.fI
theorem uNeg : UnR X (unaryOp .USub) (fun x H Q => match x with | .int i => Q (.int (-i)) H | _ => False) := by
 intro pins s σ H x v Q I rx h
 cases x with
 | int i => obtain ⟨t,rfl⟩ := rx; exact neg_int ⟨.int (-i),H,I.tok _,⟨_,rfl⟩,h⟩
 | _ => exact (show False from h).elim
def fS (g : Str -> Str -> V) : R2 := fun x y H Q => match x,y with
 | .str i,.str j => Q (g i j) H
 | _,_ => False
theorem oLeS : OpR X (compareOp .LtE) (fS fun i j => .bl (!decide (j.cps.toList < i.cps.toList))) := by
 intro pins s σ H x y v u Q I rx ry q
 refine op_le_str pins s σ H x y v u Q I rx ry ?_
 cases x <;> cases y <;> first | exact ⟨_,_,rfl,rfl,q⟩ | exact (show False from q).elim
def fCat : R2 := fun x y H Q => match x,y with
 | .str i,.str j => i.length + j.length <= sizeLine /\ Q (.str (i ++ j)) H
 | _,_ => False
theorem oCat : OpR X (binaryOp .Add) fCat := by
 intro pins s σ H x y v u Q I rx ry q
 refine op_add_str pins s σ H x y v u Q I rx ry ?_
 cases x <;> cases y <;> first | exact ⟨_,_,rfl,rfl,q.1,q.2⟩ | exact (show False from q).elim
def bF (Q : Bool -> Hp -> Prop) : VK := fun x H => match x with
 | .bl k => Q k H
 | _ => False
def tF (t : TE) : TT := fun σ H Q => t σ H (bF Q)
theorem tFq {Q : Bool -> Hp -> Prop} {x : V} {H : Hp} (h : bF Q x H) : ∃ k,x = .bl k /\ Q k H := by
 cases x with
 | bl k => exact ⟨k,rfl,h⟩
 | _ => exact (show False from h).elim
theorem ptC {op : CmpOp} {r : R2} (ho : OpR X (compareOp op) r) (ha : PE X a ta) (hb : PE X b tb) (hm : behindInMarks op b = false) : PT X (.Compare a [op] [b] pos) (tF (tOp r ta tb)) := by
 intro pins s σ H Q I h
 refine wpAny_isTrue_Compare1 (thn (ha pins s σ H _ I h) fun v s1 ⟨x,H1,I1,r1,q1⟩ => thn (hb pins s1 σ H1 _ I1 q1) fun u s2 ⟨y,H2,I2,r2,q2⟩ =>
   thn (ho pins s2 σ H2 x y v u _ I2 r1 r2 q2) fun c s3 ⟨z,H3,I3,r3,q3⟩ => ?_) hm
 obtain ⟨k,e,q⟩ := tFq q3
 subst e
 cases r3
 exact wpAny_truthy_bool ⟨H3,I3,q⟩
theorem ptV {e : Expr} {t : TE} (h : PE X e t) (he : ∀ whole,isTrue e X.env whole = (do let v <- whole; standAt e.pos; holding [v] (truthy v)) := by intro _; rfl) : PT X e (tF t) := by
 intro pins s σ H Q I hw
 refine isTrue_plain (thn (h pins s σ H _ I hw) fun v s1 ⟨x,H1,I1,r1,q1⟩ => ?_) (he _)
 obtain ⟨d,rfl,q⟩ := tFq q1
 cases r1
 exact wpAny_truthy_bool ⟨H1,I1,q⟩
def tChF (r r' : R2) (ta tb tc : TE) : TE := fun σ H Q => ta σ H fun x H1 => tb σ H1 fun y H2 => r x y H2 (bF fun k H3 => if k = true then tc σ H3 fun w' H4 => r' y w' H4 Q else Q (.bl false) H3)
theorem peCh {op op' : CmpOp} {r r' : R2} (ho : OpR X (compareOp op) r) (ho' : OpR X (compareOp op') r') (ha : PE X a ta) (hb : PE X b tb) (hc : PE X c tc)
   (hm : lastMarks [op,op'] [b,c] = false := by with_unfolding_all rfl) : PE X (.Compare a [op,op'] [b,c] pos) (tChF r r' ta tb tc) := by
 intro pins s σ H Q I h
 refine Compare_chain (thn (ha pins s σ H _ I h) fun v s1 ⟨x,H1,I1,r1,q1⟩ => chain_link (thn (hb pins s1 σ H1 _ I1 q1) fun u s2 ⟨y,H2,I2,r2,q2⟩ =>
   thn (ho pins s2 σ H2 x y v u _ I2 r1 r2 q2) fun d s3 ⟨z,H3,I3,r3,q3⟩ => ?_)) hm
 obtain ⟨k,e,q3⟩ := tFq q3
 subst e
 cases r3
 refine wpAny_truthy_bool ?_
 cases k with
 | false => exact ite_ff ⟨.bl false,H3,I3,rfl,q3⟩
 | true => exact ite_tt (chain_last (thn (hc pins s3 σ H3 _ I3 q3) fun w' s4 ⟨z',H4,I4,r4,q4⟩ => ho' pins s4 σ H4 y z' u w' Q I4 r2 r4 q4))
theorem ptCh {op op' : CmpOp} {r r' : R2} (ho : OpR X (compareOp op) r) (ho' : OpR X (compareOp op') r') (ha : PE X a ta) (hb : PE X b tb) (hc : PE X c tc)
   (hm : lastMarks [op,op'] [b,c] = false := by with_unfolding_all rfl) : PT X (.Compare a [op,op'] [b,c] pos) (tF (tChF r r' ta tb tc)) := by
 intro pins s σ H Q I h
 refine isTrue_chain (thn (ha pins s σ H _ I h) fun v s1 ⟨x,H1,I1,r1,q1⟩ => test_link (thn (hb pins s1 σ H1 _ I1 q1) fun u s2 ⟨y,H2,I2,r2,q2⟩ =>
   thn (ho pins s2 σ H2 x y v u _ I2 r1 r2 q2) fun d s3 ⟨z,H3,I3,r3,q3⟩ => ?_)) hm
 obtain ⟨k,e,q3⟩ := tFq q3
 subst e
 cases r3
 refine wpAny_truthy_bool ?_
 cases k with
 | false => exact ite_ff ⟨H3,I3,q3⟩
 | true =>
   refine ite_tt (test_last (thn (hc pins s3 σ H3 _ I3 q3) fun w' s4 ⟨z',H4,I4,r4,q4⟩ => thn (ho' pins s4 σ H4 y z' u w' _ I4 r2 r4 q4) fun d' s5 ⟨z2,H5,I5,r5,q5⟩ => ?_))
   obtain ⟨k2,e2,q5⟩ := tFq q5
   subst e2
   cases r5
   exact wpAny_truthy_bool ⟨H5,I5,q5⟩
variable {rest : List Expr}
def tAndF (ta tb : TE) : TE := fun σ H Q => ta σ H (bF fun c H1 => if c = true then tb σ H1 Q else Q (.bl false) H1)
def tOrF (ta tb : TE) : TE := fun σ H Q => ta σ H (bF fun c H1 => if c = true then Q (.bl true) H1 else tb σ H1 Q)
def tNotF (ta : TE) : TE := fun σ H Q => ta σ H (bF fun c H1 => Q (.bl (!c)) H1)
theorem peAnd (ha : PE X a ta) (hb : PE X (.BoolOp .And (b :: rest) pos) tb) : PE X (.BoolOp .And (a :: b :: rest) pos) (tAndF ta tb) := by
 intro pins s σ H Q I h
 refine BoolOp_and (thn (ha pins s σ H _ I h) fun v s1 ⟨x,H1,I1,r1,q1⟩ => ?_)
 obtain ⟨c,rfl,q1⟩ := tFq q1
 cases r1
 refine wpAny_truthy_bool ?_
 cases c with
 | true => exact hb pins s1 σ H1 Q I1 q1
 | false => exact ⟨.bl false,H1,I1,rfl,q1⟩
theorem peOr (ha : PE X a ta) (hb : PE X (.BoolOp .Or (b :: rest) pos) tb) : PE X (.BoolOp .Or (a :: b :: rest) pos) (tOrF ta tb) := by
 intro pins s σ H Q I h
 refine BoolOp_or (thn (ha pins s σ H _ I h) fun v s1 ⟨x,H1,I1,r1,q1⟩ => ?_)
 obtain ⟨c,rfl,q1⟩ := tFq q1
 cases r1
 refine wpAny_truthy_bool ?_
 cases c with
 | false => exact hb pins s1 σ H1 Q I1 q1
 | true => exact ⟨.bl true,H1,I1,rfl,q1⟩
theorem peNot (ha : PE X a ta) : PE X (.UnaryOp .Not a pos) (tNotF ta) := by
 intro pins s σ H Q I h
 refine UnaryOp_ (thn (ha pins s σ H _ I h) fun v s1 ⟨x,H1,I1,r1,q1⟩ => ?_)
 obtain ⟨c,rfl,q1⟩ := tFq q1
 cases r1
 exact not_of (wpAny_truthy_bool ⟨.bl (!c),H1,I1,rfl,q1⟩)
end
end L2
namespace L2
open PySem PySem.Spec PyProof.Rows
def Nx (n i : Nat) (Pv : Nat -> Hp -> Prop) (H : Hp) : Prop := ∃ m',m' < n - i /\ (m' = n - (i + 1) /\ i + 1 <= n /\ Pv (i + 1) H)
theorem nx {n i : Nat} {Pv : Nat -> Hp -> Prop} {H : Hp} (hi : i < n) (h : Pv (i + 1) H) : Nx n i Pv H := ⟨n - (i + 1),by omega,rfl,hi,h⟩
section
variable {g : BI -> TG} {tt : BI -> TT} {te : BI -> TE} {σ0 : St} {D : Addr} {End : Hp -> Prop} {H1 : Hp}
theorem comp_by {J : It} (n : Nat) (Pv : Nat -> Hp -> Prop) (h0 : Pv 0 (upd H1 D (.lst []))) (stop : ∀ H,Pv n H -> J.stop n H /\ End H)
   (turn : ∀ i H,i < n -> Pv i H -> J.go i H /\ ∀ x H',J.yld i H x H' -> ∀ b,g b x σ0 H' fun σ2 H2 => tt b σ2 H2 fun c H3 => if c = true then aPut D (te b) σ2 H3 (Nx n i Pv) else Nx n i Pv H3) :
   ∃ W : Nat -> Nat -> Hp -> Prop,(∃ m,W 0 m (upd H1 D (.lst []))) /\ ∀ b,CTurn J (g b) (tt b) (aPut D (te b)) σ0 End W := by
 refine ⟨fun i m H => m = n - i /\ i <= n /\ Pv i H,⟨n,rfl,Nat.zero_le _,h0⟩,fun b i m H ⟨hm,hi,p⟩ => ?_⟩
 subst hm
 by_cases hlt : i < n
 . exact .inr ⟨(turn i H hlt p).1,fun x H' y => (turn i H hlt p).2 x H' y b⟩
 . have e : i = n := by omega
   subst e
   exact .inl (stop H p)
theorem comp_str {z : Str} (Pv : Nat -> Hp -> Prop) (h0 : Pv 0 (upd H1 D (.lst []))) (stop : ∀ H,Pv z.cps.size H -> End H)
   (turn : ∀ i c H,z.cps[i]? = some c -> i < z.cps.size -> Pv i H -> ∀ b,g b (.str ⟨#[c]⟩) σ0 H fun σ2 H2 => tt b σ2 H2 fun c H3 => if c = true then aPut D (te b) σ2 H3 (Nx z.cps.size i Pv) else Nx z.cps.size i Pv H3) :
   ∃ W : Nat -> Nat -> Hp -> Prop,(∃ m,W 0 m (upd H1 D (.lst []))) /\ ∀ b,CTurn (Its z) (g b) (tt b) (aPut D (te b)) σ0 End W :=
 comp_by z.cps.size Pv h0 (fun H p => ⟨Nat.le_refl _,stop H p⟩) fun i H hi p => ⟨hi,fun x H' ⟨e,c,hc,hx⟩ b => by subst e hx; exact turn i c _ hc hi p b⟩
theorem comp_list {K : PySem.W.Frag} {a : Addr} {xs : List V} (Pv : Nat -> Hp -> Prop) (h0 : Pv 0 (upd H1 D (.lst []))) (hl : ∀ i H,i <= xs.length -> Pv i H -> SqL K H a xs) (stop : ∀ H,Pv xs.length H -> End H)
   (turn : ∀ i x H,xs[i]? = some x -> i < xs.length -> Pv i H -> ∀ b,g b x σ0 H fun σ2 H2 => tt b σ2 H2 fun c H3 => if c = true then aPut D (te b) σ2 H3 (Nx xs.length i Pv) else Nx xs.length i Pv H3) :
   ∃ W : Nat -> Nat -> Hp -> Prop,(∃ m,W 0 m (upd H1 D (.lst []))) /\ ∀ b,CTurn (Itl K a) (g b) (tt b) (aPut D (te b)) σ0 End W :=
 comp_by xs.length Pv h0 (fun H p => ⟨⟨xs,hl _ H (Nat.le_refl _) p,Nat.le_refl _⟩,stop H p⟩) fun i H hi p =>
   ⟨⟨xs,xs[i],hl i H (Nat.le_of_lt hi) p,by simp [hi]⟩,fun x H' ⟨e,y⟩ b => by subst e; exact turn i x _ (y xs (hl i _ (Nat.le_of_lt hi) p)) hi p b⟩
theorem comp_tup {K : PySem.W.Frag} {a : Addr} {xs : List V} (Pv : Nat -> Hp -> Prop) (h0 : Pv 0 (upd H1 D (.lst []))) (hl : ∀ i H,i <= xs.length -> Pv i H -> SqT K H a xs) (stop : ∀ H,Pv xs.length H -> End H)
   (turn : ∀ i x H,xs[i]? = some x -> i < xs.length -> Pv i H -> ∀ b,g b x σ0 H fun σ2 H2 => tt b σ2 H2 fun c H3 => if c = true then aPut D (te b) σ2 H3 (Nx xs.length i Pv) else Nx xs.length i Pv H3) :
   ∃ W : Nat -> Nat -> Hp -> Prop,(∃ m,W 0 m (upd H1 D (.lst []))) /\ ∀ b,CTurn (Itt K a) (g b) (tt b) (aPut D (te b)) σ0 End W :=
 comp_by xs.length Pv h0 (fun H p => ⟨⟨xs,hl _ H (Nat.le_refl _) p,Nat.le_refl _⟩,stop H p⟩) fun i H hi p =>
   ⟨⟨xs,xs[i],hl i H (Nat.le_of_lt hi) p,by simp [hi]⟩,fun x H' ⟨e,y⟩ b => by subst e; exact turn i x _ (y xs (hl i _ (Nat.le_of_lt hi) p)) hi p b⟩
theorem comp_range {lo : Int} {n : Nat} (Pv : Nat -> Hp -> Prop) (h0 : Pv 0 (upd H1 D (.lst []))) (stop : ∀ H,Pv n H -> End H)
   (turn : ∀ i H,i < n -> Pv i H -> ∀ b,g b (.int (lo + i)) σ0 H fun σ2 H2 => tt b σ2 H2 fun c H3 => if c = true then aPut D (te b) σ2 H3 (Nx n i Pv) else Nx n i Pv H3) :
   ∃ W : Nat -> Nat -> Hp -> Prop,(∃ m,W 0 m (upd H1 D (.lst []))) /\ ∀ b,CTurn (Itr lo n) (g b) (tt b) (aPut D (te b)) σ0 End W :=
 comp_by n Pv h0 (fun H p => ⟨Nat.le_refl _,stop H p⟩) fun i H hi p => ⟨hi,fun x H' ⟨e,hx⟩ b => by subst e hx; exact turn i _ hi p b⟩
end
structure Grow (H1 H : Hp) (D : Addr) (ys : List V) : Prop where
 at' : H D = some (.lst ys)
 same : Same H1 H
theorem Grow.start {H1 : Hp} {D : Addr} (h : H1 D = none) : Grow H1 (upd H1 D (.lst [])) D [] := ⟨upd_same,fun b o e => by rw [upd_ne (ne_of_none e h)]; exact e⟩
theorem Grow.put {H1 H : Hp} {D : Addr} {ys : List V} (h : H1 D = none) (G : Grow H1 H D ys) (y : V) : Grow H1 (upd H D (.lst (ys ++ [y]))) D (ys ++ [y]) := ⟨upd_same,fun b o e => by rw [upd_ne (ne_of_none e h)]; exact G.same b o e⟩
theorem Same.upd {H H1 : Hp} {p : Addr} {o : HO} (s : Same H H1) (h : H1 p = none) : Same H (upd H1 p o) := fun b u e => by rw [upd_ne (ne_of_none (s b u e) h)]; exact s b u e
theorem Same.tup {K : PySem.W.Frag} {H H' : Hp} {a : Addr} {xs : List V} (e : Same H H') (h : SqT K H a xs) : SqT K H' a xs := by
 rcases h with (h | ⟨o,h⟩) | h
 . exact .inl (.inl (e _ _ h))
 . exact .inl (.inr ⟨o,e _ _ h⟩)
 . exact .inr h
def sub8 (T n : String) : Bool := T == n || (T == "bool" && n == "int")
theorem kit8 {K : PySem.W.Frag} {H : Hp} {x : V} {T : String} (h : TyOf K H x (.type T)) : PySem.W.kitOne K (.type T) (.type "int") = some (sub8 T "int") /\ PySem.W.kitOne K (.type T) (.type "bool") = some (sub8 T "bool") /\ PySem.W.kitOne K (.type T) (.type "str") = some (sub8 T "str") /\ PySem.W.kitOne K (.type T) (.type "tuple") = some (sub8 T "tuple") := by
 cases h <;> exact ⟨rfl,rfl,rfl,rfl⟩
end L2
namespace L2
open PySem PySem.Spec PyProof.Rows
section
variable {X : Cx} {a b : Expr} {tA tB' : TT} {rest : List Expr} {pos : Pos}
theorem ptOr (ha : PT X a tA) (hb : PW X (.BoolOp .Or (b :: rest) pos) tB') : PT X (.BoolOp .Or (a :: b :: rest) pos) (tOr tA tB') := (pw_or ha hb).pt
theorem ptAnd (ha : PT X a tA) (hb : PW X (.BoolOp .And (b :: rest) pos) tB') : PT X (.BoolOp .And (a :: b :: rest) pos) (tAnd tA tB') := (pw_and ha hb).pt
end
theorem lt1 {a b : Nat} : ([a] < [b]) ↔ a < b := by simp [List.cons_lt_cons_iff]
end L2
namespace L2
open PySem PySem.Spec PyProof.Rows
theorem take_map {α β : Type} {f : α -> β} {l : List α} {i : Nat} {c : α} (h : l[i]? = some c) : (l.take (i + 1)).map f = (l.take i).map f ++ [f c] := by
 rw [List.take_add_one,h,List.map_append]; rfl
theorem take_all {α β : Type} {f : α -> β} {l : List α} {n : Nat} (h : l.length <= n) : (l.take n).map f = l.map f := by rw [List.take_of_length_le h]
theorem len_take {α β : Type} {f : α -> β} {l : List α} {i m : Nat} (h : i < m) (hm : m <= sizeLine) : ((l.take i).map f).length < sizeLine := by
 rw [List.length_map,List.length_take]; omega
theorem cps_get {z : Str} {i c : Nat} (h : z.cps[i]? = some c) : z.cps.toList[i]? = some c := by simpa using h
end L2
namespace L2
open PySem PySem.Spec PyProof.Rows
def SameB (p : Addr) (H H' : Hp) : Prop := ∀ b o,b ≠ p -> H b = some o -> H' b = some o
theorem SameB.of {p : Addr} {H H' : Hp} (s : Same H H') : SameB p H H' := fun b o _ e => s b o e
theorem SameB.trans {p : Addr} {H H1 H2 : Hp} (a : SameB p H H1) (b : SameB p H1 H2) : SameB p H H2 := fun c o n e => b c o n (a c o n e)
theorem SameB.upd {p : Addr} {H H1 : Hp} {o : HO} (a : SameB p H H1) : SameB p H (upd H1 p o) := fun c u n e => by rw [upd_ne n]; exact a c u n e
theorem SameB.new {p q : Addr} {H H1 : Hp} {o : HO} (a : SameB p H H1) (h : H1 q = none) : SameB p H (L2.upd H1 q o) := fun c u n e => by rw [upd_ne (ne_of_none (a c u n e) h)]; exact a c u n e
structure IxA (K : PySem.W.Frag) (x y : V) (H : Hp) (Q : VK) : Prop where
 h : rIxL K x y H Q
theorem iIx {X : Cx} : IxR X (IxA X.K) := fun a b pins s σ H x y v u Q I rx ry h hs => ix_list a b pins s σ H x y v u Q I rx ry h.h hs
theorem ixAt {K : PySem.W.Frag} {H : Hp} {p : Addr} {xs : List V} {i : Int} {v : V} {Q : VK} (h : H p = some (.lst xs)) (e : atI xs i = some v) (q : Q v H) : IxA K (.ref p) (.int i) H Q := ⟨p,xs,i,v,rfl,rfl,SqL.of h,e,q⟩
theorem ixAtS {K : PySem.W.Frag} {H : Hp} {p : Addr} {xs : List V} {i : Int} {v : V} {Q : VK} (h : SqL K H p xs) (e : atI xs i = some v) (q : Q v H) : IxA K (.ref p) (.int i) H Q := ⟨p,xs,i,v,rfl,rfl,h,e,q⟩
structure IxT (K : PySem.W.Frag) (x y : V) (H : Hp) (Q : VK) : Prop where
 h : rIxT K x y H Q
theorem iIxT {X : Cx} : IxR X (IxT X.K) := fun a b pins s σ H x y v u Q I rx ry h hs => ix_tup a b pins s σ H x y v u Q I rx ry h.h hs
theorem ixTup {K : PySem.W.Frag} {H : Hp} {p : Addr} {xs : List V} {i : Int} {v : V} {Q : VK} (h : SqT K H p xs) (e : atI xs i = some v) (q : Q v H) : IxT K (.ref p) (.int i) H Q := ⟨p,xs,i,v,rfl,rfl,h,e,q⟩
structure IxS (x y : V) (H : Hp) (Q : VK) : Prop where
 h : rIxS x y H Q
theorem iIxS {X : Cx} : IxR X IxS := fun a b pins s σ H x y v u Q I rx ry h hs => ix_str a b pins s σ H x y v u Q I rx ry h.h hs
theorem ixStr {H : Hp} {z : Str} {i : Int} {c : Nat} {Q : VK} (hz : z.length <= sizeLine) (e : atI z.cps.toList i = some c) (q : Q (.str ⟨#[c]⟩) H) : IxS (.str z) (.int i) H Q := ⟨z,i,c,rfl,rfl,hz,e,q⟩
structure SetA (o i v : V) (H : Hp) (Q : Hp -> Prop) : Prop where
 h : rSetL o i v H Q
theorem iSet {X : Cx} : PSet X SetA := fun pins s σ H o i v ov iv u Q I ro ri rv h => set_list pins s σ H o i v ov iv u Q I ro ri rv h.h
theorem setAt {H : Hp} {p : Addr} {xs : List V} {i : Int} {j : Nat} {v : V} {Q : Hp -> Prop} (h : H p = some (.lst xs)) (e : ixN xs.length i = some j) (q : Q (upd H p (.lst (xs.set j v)))) : SetA (.ref p) (.int i) v H Q := ⟨p,xs,i,j,rfl,rfl,h,e,q⟩
end L2
namespace L2
open PySem PySem.Spec PyProof.Rows
def cutS (z : Str) (lo hi : Option Int) : Str := ⟨((z.cps.toList.drop (HT.sIx z.length 0 lo)).take (HT.sIx z.length z.length hi - HT.sIx z.length 0 lo)).toArray⟩
theorem ssi_eq (lo hi : Option Int) (n : Nat) : Builtin.Str.strSliceIndices lo hi 1 n = (List.range (HT.sIx n n hi - HT.sIx n 0 lo)).map (HT.sIx n 0 lo + ·) := by
 have a : ∀ (v : Option Int) (d : Nat),d <= n -> (match v with | none => (d : Int) | some i => (let i := if i < 0 then i + (n : Int) else i; max 0 (min i (n : Int)))) = ((HT.sIx n d v : Nat) : Int) := fun v d hd => by
   cases v with
   | none => rfl
   | some i =>
     show max 0 (min (if i < 0 then i + (n : Int) else i) (n : Int)) = ((if i < 0 then (i + (n : Int)).toNat else min i.toNat n : Nat) : Int)
     by_cases h : i < 0
     . rw [if_pos h,if_pos h]; omega
     . rw [if_neg h,if_neg h]; omega
 rw [<- sliceRange_one]
 unfold Builtin.Str.strSliceIndices
 have h1 := a lo 0 (Nat.zero_le _)
 have h2 := a hi n (Nat.le_refl _)
 simp only [show (1 : Int) > 0 by decide,if_true] at h1 h2 ⊢
 rw [<- h1,<- h2]
 rfl
theorem slice_eq (z : Str) (lo hi : Option Int) : Txt.slice z lo hi = cutS z lo hi := by
 unfold Txt.slice cutS
 rw [ssi_eq,pick_run]
 split
 . rename_i h
   have e : HT.sIx z.length z.length hi - HT.sIx z.length 0 lo = z.length := by simpa using h
   have b : HT.sIx z.length z.length hi <= z.length := by
     unfold HT.sIx
     cases hi with
     | none => exact Nat.le_refl _
     | some v => simp only; split <;> omega
   by_cases h0 : z.length = 0
   . have e0 : z.cps.toList = [] := by
       apply List.eq_nil_of_length_eq_zero
       simpa [Str.length] using h0
     cases z with
     | mk cps =>
       have e1 : cps = #[] := by simpa using e0
       subst e1
       simp
   . have e1 : HT.sIx z.length 0 lo = 0 := by omega
     rw [e1,Nat.sub_zero,show HT.sIx z.length z.length hi = z.length by omega,List.drop_zero,List.take_of_length_le (by simp [Str.length])]
 . rfl
theorem slice_to (z : Str) (k : Nat) : Txt.slice z none (some (k : Int)) = ⟨(z.cps.toList.take k).toArray⟩ := by
 rw [slice_eq]
 unfold cutS
 rw [HT.sIx_none,HT.sIx_nat,List.drop_zero,Nat.sub_zero]
 congr 2
 rw [List.take_eq_take_iff]
 simp [Str.length]
 try omega
theorem slice_mid (z : Str) (i k : Nat) : Txt.slice z (some (i : Int)) (some (k : Int)) = ⟨((z.cps.toList.take k).drop i).toArray⟩ := by
 rw [slice_eq]
 unfold cutS
 rw [HT.sIx_nat,HT.sIx_nat,List.drop_take]
 have el : z.cps.toList.length = z.length := by simp [Str.length]
 congr 1
 by_cases h : i <= z.length
 . rw [Nat.min_eq_left h]
   congr 1
   rw [List.take_eq_take_iff,List.length_drop,el]
   omega
 . rw [List.drop_of_length_le (show z.cps.toList.length <= min i z.length by omega),List.drop_of_length_le (show z.cps.toList.length <= i by omega)]
   simp
end L2
namespace L2
open PySem PySem.Spec PyProof.Rows
def tPartF (t : TE) : TO := fun σ H Q => t σ H fun x H1 => match x with
 | .int i => Q (some i) H1
 | _ => False
theorem poI {X : Cx} {e : Expr} {te : TE} (h : PE X e te) : PO X (some e) (tPartF te) := by
 intro pins s σ H Q I hw
 rw [evalPart_some]
 refine thn (h pins s σ H _ I hw) fun u s1 ⟨x,H1,I1,r1,q1⟩ => ?_
 cases x with
 | int i => obtain ⟨t,rfl⟩ := r1; exact ⟨some i,H1,I1,.int i t,q1⟩
 | _ => exact (show False from q1).elim
structure SlS (x : V) (lo hi : Option Int) (H : Hp) (Q : VK) : Prop where
 h : ∃ z,x = .str z /\ z.length <= sizeLine /\ Q (.str (Txt.slice z lo hi)) H
theorem iSlS {X : Cx} : SlR X SlS := fun pins s σ H x v vl vu lo hi sl Q I rx hs pl pu h => sl_str pins s σ H x v vl vu lo hi sl Q I rx hs pl pu h.h
theorem slStr {z : Str} {lo hi : Option Int} {H : Hp} {Q : VK} (hz : z.length <= sizeLine) (q : Q (.str (Txt.slice z lo hi)) H) : SlS (.str z) lo hi H Q := ⟨z,rfl,hz,q⟩
theorem app_list (a b : Str) : (a ++ b).cps.toList = a.cps.toList ++ b.cps.toList := by
 show (a.cps ++ b.cps).toList = _
 simp
theorem len_list (a : Str) : a.cps.toList.length = a.length := by simp [Str.length]
end L2
namespace L2
open PySem PySem.Spec PyProof.Rows
abbrev TAct := St -> Hp -> (St -> Hp -> Prop) -> Prop
def CT (J : It) (g : TG) (tt : TT) (act : TAct) (End : St -> Hp -> Prop) (W : Nat -> Nat -> St -> Hp -> Prop) : Prop :=
 ∀ i m σ H,W i m σ H -> (J.stop i H /\ End σ H) ∨ (J.go i H /\ ∀ x H',J.yld i H x H' -> g x σ H' fun σ2 H2 => tt σ2 H2 fun b H3 =>
   if b = true then act σ2 H3 fun σ4 H4 => ∃ m',m' < m /\ W (i + 1) m' σ4 H4 else ∃ m',m' < m /\ W (i + 1) m' σ2 H3)
def PAct (X : Cx) (tail : Sem Unit) (act : TAct) : Prop :=
 ∀ (pins : List (Addr × Obj)) (s : Shared) (σ : St) (H : Hp) (R : St -> Hp -> Prop),Inv X pins σ H s -> act σ H R ->
   wpAny (model X.prog X.w) X.A tail (fun _ s' => ∃ σ' H',Inv X pins σ' H' s' /\ R σ' H') (fun _ _ => False) s
def turnC (p : Pos) (tg : Expr) (ifs : List Expr) (env : Env) (it : Value) (tail : Sem Unit) (c : Code) : Sem Fin := do
 standAt p
 match <- pyNext it with
 | none => pure (.done .next)
 | some v =>
   letOwnedTupleGo tg it v
   assign tg env v
   let mut ok := true
   for c in ifs do
     if ok then ok <- isTrue c env (eval c env)
   if ok then tail
   again c
theorem loopG {X : Cx} {e : Expr} {depth : Nat} {acc : Value} {p : Pos} {tg : Expr} {ifs : List Expr} {tail : Sem Unit} {J : It} {fp : List Addr} {it : Addr} {tn : Nat -> Heap -> Prop} {g : TG} {tt : TT} {act : TAct} {End : St -> Hp -> Prop} {W : Nat -> Nat -> St -> Hp -> Prop} {m0 : Nat}
   {pins : List (Addr × Obj)} {σ : St} {H : Hp} {s : Shared} (hq : (Code.compLoop e depth (.ref it) acc X.env).quiet = true)
   (hden : ∀ (Q : Fin -> Shared -> Prop) (E : Value -> Shared -> Prop) (s : Shared),wpAny (model X.prog X.w) X.A (turnC p tg ifs X.env (.ref it) tail (.compLoop e depth (.ref it) acc X.env)) Q (notedBy (model X.prog X.w) X.A X.env E) s ->
     wpAny (model X.prog X.w) (X.A.under (.compLoop e depth (.ref it) acc X.env)) ((model X.prog X.w).den (.compLoop e depth (.ref it) acc X.env)) Q E s)
   (hxe : ∀ v s,X.xe v s -> False) (hc : X.calm = true) (T : Turn X.prog X.w X.K tg J fp it tn) (hf : ∀ b ∈ fp,FpOk X pins H b) (I : Inv X pins σ H s) (st : tn 0 s.heap) (hg : PG X tg g) (ht : PIf X ifs tt) (ha : PAct X tail act)
   (hW : CT J g tt act End W) (w0 : W 0 m0 σ H) :
   codeAny (model X.prog X.w) X.A (.compLoop e depth (.ref it) acc X.env) (fun r s' => ∃ σ' H',r = .ok .next /\ Inv X pins σ' H' s' /\ End σ' H') s := by
 have stat : ∀ {H' : Hp},(∀ b ∈ fp,H' b = none) -> ∀ b ∈ fp,FpOk X pins H' b := fun hn b hb => ⟨hn b hb,(hf b hb).2⟩
 refine codeAny_loop hq (fun n s' => ∃ i σ' H',Inv X pins σ' H' s' /\ tn i s'.heap /\ (∀ b ∈ fp,H' b = none) /\ W i n σ' H') ?_ m0 ⟨0,σ,H,I,st,fun b hb => (hf b hb).1,w0⟩
 rintro n s3 ⟨i,σ3,H3,I3,st3,fr3,w3⟩
 refine hden _ _ _ ?_
 unfold turnC
 rcases hW i n σ3 H3 w3 with ⟨stop,qe⟩ | ⟨go,step⟩
 . refine wpAny_bind (wpAny_standAt (wpAny_bind (thn (T.done X rfl rfl rfl hc i pins s3 _ H3 _ I3 (stat fr3) st3 stop) fun r s5 ⟨hr,I5⟩ => ?_)))
   subst hr
   exact wpAny_pure ⟨σ3,H3,rfl,I5,qe⟩
 . refine wpAny_bind (wpAny_standAt (wpAny_bind (thn (T.item X rfl rfl rfl hc i pins s3 _ H3 _ I3 (stat fr3) st3 go) fun r s5 ⟨u,hr,h5⟩ => ?_)))
   subst hr
   refine wpAny_bind (thn h5 fun _ s6 ⟨x,H6,I6,r6,y6,st6,fr6⟩ => ?_)
   have I6' := I6.pinned (stat fr6) (T.obj _ _ st6)
   refine wpAny_bind (wpAny_mono (hg _ s6 _ H6 x u _ I6' r6 (step x H6 y6)) (fun _ s7 ⟨σ7,H7,I7,q7⟩ => ?_) fun v s' f => (hxe v s' f).elim)
   refine wpAny_bind (wpAny_mono (ht _ s7 σ7 H7 _ I7 q7) (fun ok s8 ⟨H8,I8,q8⟩ => ?_) fun v s' f => (hxe v s' f).elim)
   have again : ∀ {σ9 : St} {H9 : Hp} {s9 : Shared} {m' : Nat},Inv X (pins ++ pinsAt fp s6.heap) σ9 H9 s9 -> m' < n -> W (i + 1) m' σ9 H9 ->
       ∃ m,m < n /\ ∃ i σ' H',Inv X pins σ' H' s9 /\ tn i s9.heap /\ (∀ b ∈ fp,H' b = none) /\ W i m σ' H' := fun {σ9 H9 s9 m'} I9 hm w9 => by
     refine ⟨m',hm,i + 1,σ9,H9,I9.unpinned,T.keep _ _ _ st6 fun b hb o e => (I9.pin (b,o) (List.mem_append_right _ (List.mem_append_right _ (mem_pinsAt hb e)))).1,fun b hb => ?_,w9⟩
     obtain ⟨o,e,d⟩ := T.obj _ _ st6 b hb
     exact (I9.pin (b,o) (List.mem_append_right _ (List.mem_append_right _ (mem_pinsAt hb e)))).2.1
   cases ok with
   | false =>
     obtain ⟨m',hm,w9⟩ := q8
     exact wpAny_pure ⟨rfl,again I8 hm w9⟩
   | true =>
     refine wpAny_bind (wpAny_mono (ha _ s8 σ7 H8 _ I8 q8) (fun _ s9 ⟨σ9,H9,I9,m',hm,w9⟩ => ?_) fun _ _ f => f.elim)
     exact wpAny_pure ⟨rfl,again I9 hm w9⟩
def aPut2 (D : Addr) (te : TE) : TAct := fun σ H R => te σ H fun y H4 => ∃ zs,H4 D = some (.lst zs) /\ zs.length < sizeLine /\ R σ (upd H4 D (.lst (zs ++ [y])))
def aIn (wi : TI) (g : TG) (tt : TT) (act : TAct) : TAct := fun σ H R => wi σ H fun J H1 => ∃ W : Nat -> Nat -> St -> Hp -> Prop,(∃ m,W 0 m σ H1) /\ CT J g tt act R W
section
variable {X : Cx} {elt kx vx iter tg : Expr} {te tk tv : TE} {D : Addr} {wi : TI} {g : TG} {tt : TT} {act : TAct} {ifs : List Expr} {scope : Scope} {pos : Pos}
theorem pact_put (hxe : ∀ v s,X.xe v s -> False) (he : PE X elt te) : PAct X (do let _ <- call (.builtin "list.append") [.ref D,<- eval elt X.env]) (aPut2 D te) := by
 intro pins s σ H R I h
 refine wpAny_bind (wpAny_mono (he _ s σ H _ I h) (fun y s9 ⟨v,H9,I9,r9,zs,hD,hz,w9⟩ => ?_) fun v s' f => (hxe v s' f).elim)
 refine wpAny_bind (wpAny_mono (mt_append (X := X) _ s9 σ H9 (.ref D) [v] (.ref D) [y] (fun _ H' => R σ H') I9 rfl (.cons r9 .nil) ⟨D,zs,v,rfl,rfl,hD,hz,w9⟩) (fun _ s10 ⟨_,H10,I10,_,q⟩ => ?_) fun v s' f => (hxe v s' f).elim)
 exact wpAny_pure ⟨σ,H10,I10,q⟩
theorem d_dictSet {pins : List (Addr × Obj)} {σ : St} {H H' : Hp} {s : Shared} {a : Addr} {y v : V} {u r : Value} {A : Around} {E : Value -> Shared -> Prop} {Q : Unit -> Shared -> Prop} (I : Inv X pins σ H s) {kvs : List (Key × V)} {k : Key} (e : H a = some (.dK kvs)) (ey : y = kV k)
   (l : kvs.length < sizeLine) (eH : H' = upd H a (.dK (putK kvs k v))) (ry : RelV y u) (rv : RelV v r) (h : ∀ s',Inv X pins σ H' s' -> Q () s') : wpAny (model X.prog X.w) A (dictSet a u r) Q E s := by
 subst ey eH
 obtain ⟨z,hd,vs,rel,dd⟩ := dk_of I.hok e
 have hz : vs.length <= sizeLine := by rw [<- rel.length]; exact z
 have hl : (putK kvs k v).length <= sizeLine := by have := length_putK kvs k v; omega
 refine wpAny_dictSet_pairs (hsz := hz) (kV_is ry) dd fun h' dd' hs => h _ ?_
 have he : ∃ q,h'.get? a = some q := let ⟨q,_,_,hq,_⟩ := dd'; ⟨q,hq⟩
 exact d_write I (by rw [e]; exact True.intro) hs he (dk_new hl hd (rel.put k rv) dd')
def aDictK (D : Addr) (tk tv : TE) : TAct := fun σ H R => tk σ H fun k H1 => tv σ H1 fun v H2 => ∃ kvs kk,H2 D = some (.dK kvs) /\ k = kV kk /\ kvs.length < sizeLine /\ R σ (upd H2 D (.dK (putK kvs kk v)))
theorem pact_dict (hxe : ∀ v s,X.xe v s -> False) (hk : PE X kx tk) (hv : PE X vx tv) : PAct X (do
   let kv <- eval kx X.env
   let vv <- holding [kv] (eval vx X.env)
   standAt { kx.pos with endLine := vx.pos.endLine,endCol := vx.pos.endCol }
   holding [kv,vv] (dictSet D kv vv)) (aDictK D tk tv) := by
 intro pins s σ H R I h
 refine wpAny_bind (wpAny_mono (hk _ s σ H _ I h) (fun y s1 ⟨k,H1,I1,r1,q1⟩ => ?_) fun v s' f => (hxe v s' f).elim)
 refine wpAny_bind (wpAny_holding (wpAny_mono (hv _ s1 σ H1 _ I1 q1) (fun z s2 ⟨v,H2,I2,r2,kvs,kk,hD,ek,hl,q⟩ => ?_) fun v s' f => (hxe v s' f).elim))
 refine wpAny_bind (wpAny_standAt (wpAny_holding ?_))
 exact d_dictSet I2 hD ek hl rfl r1 r2 fun s' I' => ⟨σ,_,I',q⟩
end
end L2
namespace L2
open PySem PySem.Spec PyProof.Rows
theorem pact_in {X : Cx} {e : Expr} {acc : Value} {p : Pos} {iter tg : Expr} {ifs : List Expr} {tail : Sem Unit} {wi : TI} {g : TG} {tt : TT} {act : TAct}
   (hq : ∀ it,(Code.compLoop e 1 (.ref it) acc X.env).quiet = true)
   (hden : ∀ (it : Addr) (Q : Fin -> Shared -> Prop) (E : Value -> Shared -> Prop) (s : Shared),wpAny (model X.prog X.w) X.A (turnC p tg ifs X.env (.ref it) tail (.compLoop e 1 (.ref it) acc X.env)) Q (notedBy (model X.prog X.w) X.A X.env E) s ->
     wpAny (model X.prog X.w) (X.A.under (.compLoop e 1 (.ref it) acc X.env)) ((model X.prog X.w).den (.compLoop e 1 (.ref it) acc X.env)) Q E s)
   (hst : ∀ (it : Addr) (R : Result -> Shared -> Prop) (s : Shared),codeAny (model X.prog X.w) X.A (.compLoop e 1 (.ref it) acc X.env) R s ->
     (∀ Q E,Q (.ref it) s -> wpAny (model X.prog X.w) X.A (pyIter (.ref it)) Q E s) -> codeAny (model X.prog X.w) X.A (.compStart e 1 (.ref it) acc X.env) R s)
   (hxe : ∀ v s,X.xe v s -> False) (hc : X.calm = true) (hi : PI X tg iter wi) (hg : PG X tg g) (ht : PIf X ifs tt) (ha : PAct X tail act) (hs : ∀ x,foldedSetIterable iter X.env x = pure x := by intro _; rfl) :
   PAct X (do
     let x <- eval iter X.env
     standAt iter.pos
     let x <- foldedSetIterable iter X.env x
     let _ <- runOwn (.compStart e 1 (<- holding [x] (pyIter x)) acc X.env) X.env) (aIn wi g tt act) := by
 intro pins s σ H R I h
 refine wpAny_bind (wpAny_mono (hi pins s σ H _ I h) (fun v s1 h1 => ?_) fun v s' f => (hxe v s' f).elim)
 refine wpAny_bind (wpAny_standAt (wpAny_bind ?_))
 rw [hs]
 refine wpAny_pure (wpAny_bind (wpAny_holding (wpAny_mono h1 (fun itv s2 h2 => ?_) fun v s' f => (hxe v s' f).elim)))
 obtain ⟨it,fp,tn,J,H2,rfl,I2,T,st2,f2,W,⟨m0,w0⟩,hW⟩ := h2
 have loop := loopG (p := p) (hq it) (hden it) hxe hc T f2 I2 st2 hg ht ha hW w0
 refine wpAny_bind (wpAny_runOwn (codeAny_mono (hst it _ _ loop fun Q E q => T.self _ 0 _ _ _ st2 q) fun r s' ⟨σ',H',hr,I',q⟩ => ?_))
 subst hr
 exact wpAny_pure ⟨σ',H',I',q⟩
end L2
namespace L2
open PySem PySem.Spec PyProof.Rows
def tCompG (own : List Str) (ix : List Nat) (o0 : HO) (wi : TI) (g : BI -> TG) (tt : BI -> TT) (act : BI -> Addr -> TAct) : TE := fun σ H Q => wi σ H fun J H1 => ∀ D,H1 D = none ->
 ∃ W : Nat -> Nat -> St -> Hp -> Prop,(∃ m,W 0 m (stB own ix σ) (upd H1 D o0)) /\ ∀ b,CT J (g b) (tt b) (act b D) (fun _ H' => Q (.ref D) H') W
section
variable {X : Cx} {e tg iter : Expr} {ifs : List Expr} {gs : List Comprehension} {scope scX : Scope} {pos : Pos} {own cap : List Str} {ix : List Nat} {wi : TI} {g : BI -> TG} {tt : BI -> TT} {act : BI -> Addr -> TAct} {tail : Addr -> Env -> Sem Unit} {newAcc : Sem Value} {ob : Obj} {o0 : HO} {p : Pos}
structure CodeC (X : Cx) (e : Expr) (depth : Nat) (p : Pos) (tg : Expr) (ifs : List Expr) (tail : Addr -> Env -> Sem Unit) : Prop where
 hq : ∀ it D env,(Code.compLoop e depth (.ref it) (.ref D) env).quiet = true
 hden : ∀ (it D : Addr) (env : Env) (Q : Fin -> Shared -> Prop) (E : Value -> Shared -> Prop) (s : Shared),wpAny (model X.prog X.w) X.A (turnC p tg ifs env (.ref it) (tail D env) (.compLoop e depth (.ref it) (.ref D) env)) Q (notedBy (model X.prog X.w) X.A env E) s ->
     wpAny (model X.prog X.w) (X.A.under (.compLoop e depth (.ref it) (.ref D) env)) ((model X.prog X.w).den (.compLoop e depth (.ref it) (.ref D) env)) Q E s
 hst : ∀ (it D : Addr) (env : Env) (R : Result -> Shared -> Prop) (s : Shared),codeAny (model X.prog X.w) X.A (.compLoop e depth (.ref it) (.ref D) env) R s ->
     (∀ Q E,Q (.ref it) s -> wpAny (model X.prog X.w) X.A (pyIter (.ref it)) Q E s) -> codeAny (model X.prog X.w) X.A (.compStart e depth (.ref it) (.ref D) env) R s
theorem comp_enterG {pins : List (Addr × Obj)} {σ : St} {H : Hp} {s : Shared} {Q : VK} {use : Option (Value -> Sem Unit)} {Q' : Value -> Shared -> Prop} (hcl : clausesOf e = ⟨tg,iter,ifs,0⟩ :: gs) (C0 : CodeC X e 0 p tg ifs tail)
   (hnew : ∀ (pins : List (Addr × Obj)) (σ : St) (H : Hp) (s : Shared) (Q : Value -> Shared -> Prop) (E : Value -> Shared -> Prop),Inv X pins σ H s -> (Inv X pins σ (upd H s.heap.objs.size o0) { s with heap := s.heap.push ob } -> Q (.ref s.heap.objs.size) { s with heap := s.heap.push ob }) -> wpAny (model X.prog X.w) X.A newAcc Q E s)
   (hc : X.calm = true) (hX : X.env.scope = scX) (S : BlkS scX scope X.N own cap ix) (hi : PI X tg iter wi)
   (hg : ∀ b,PG (blk X scope (own ++ cap) b) tg (g b)) (ht : ∀ b,PIf (blk X scope (own ++ cap) b) ifs (tt b)) (ha : ∀ b D,PAct (blk X scope (own ++ cap) b) (tail D (blk X scope (own ++ cap) b).env) (act b D))
   (hs : ∀ x,foldedSetIterable iter X.env x = pure x) (I : Inv X pins σ H s) (h : tCompG own ix o0 wi g tt act σ H Q)
   (out : ∀ (D C : Addr) (H' : Hp) (s' : Shared),Q (.ref D) H' -> (∃ m,s'.heap.Ns C m) -> FpOk X pins H' C -> (∀ h',Heap.SameBut C s'.heap h' -> Inv X pins σ H' { s' with heap := h' }) ->
     compPost (model X.prog X.w) X.A X.xe use Q' (.ref D) C (.ok .next) s') :
   wpAny (model X.prog X.w) X.A (comprehension e scope X.env pos newAcc false (eval iter X.env) use) Q' X.xe s := by
 have hclos := closureFor_eq (scope := scope) (env := X.env) fun y hy hk => by
   have hf := S.free y hy hk
   rw [<- hX] at hf
   exact I.ok.has y.1 hf
 refine wpAny_comprehension_free (use := use) hcl hs hclos S.kind (fun y hy hk => by rw [S.nm y hy,hk]) (thn (hi pins s σ H _ I h) fun v s1 h1 => thn h1 fun itv s2 h2 => ?_)
 obtain ⟨it,fp,tn,J,H2,e1,I2,T,st2,f2,hR⟩ := h2
 subst e1
 refine hnew _ _ _ _ _ _ I2 fun I3 => ?_
 obtain ⟨W,⟨m0,w0⟩,hW⟩ := hR s2.heap.objs.size I2.fresh
 have ltF : ∀ b ∈ fp,b < s2.heap.objs.size := fun b hb => let ⟨_,e,_⟩ := T.obj _ _ st2 b hb; Heap.lt_size e
 have f3 : ∀ b ∈ fp,FpOk X pins (upd H2 s2.heap.objs.size o0) b := fun b hb => ⟨by rw [upd_ne (Nat.ne_of_lt (ltF b hb))]; exact (f2 b hb).1,(f2 b hb).2⟩
 have st3 : tn 0 (s2.heap.push ob) := T.keep _ _ _ st2 fun b hb o e => Heap.get?_push_of_some _ e
 generalize hs3 : ({ s2 with heap := s2.heap.push ob } : Shared) = s3 at I3
 have st3' : tn 0 s3.heap := by rw [<- hs3]; exact st3
 have ob3 : ∀ b ∈ fp,∃ o,s3.heap.get? b = some o := fun b hb => let ⟨o,e,_⟩ := T.obj _ _ st3' b hb; ⟨o,e⟩
 have I4 := blk_inv S hX I3 f3 ob3
 have st4 : tn 0 (hpB s3 scope) := T.keep _ _ _ st3' fun b _ o e => hpB_keeps s3 scope b o e
 refine newEnv_blk ?_
 have f4 : ∀ b ∈ fp,FpOk (blk X scope (own ++ cap) (biB X pins s3 (upd H2 s2.heap.objs.size o0) scope fp)) [] (upd H2 s2.heap.objs.size o0) b := fun b hb => by
   refine ⟨(f3 b hb).1,(I4.ok.exf b hb).1,I4.ok.exfs b hb,.inl hb,(I4.ok.exf b hb).2,fun p hp => ?_⟩
   have hp' : p ∈ X.pn ++ pins := by
     rcases List.mem_append.mp hp with z | z
     . exact z
     . exact nomatch z
   exact (f3 b hb).2.2.2.2.2 p hp'
 have loop := loopG (X := blk X scope (own ++ cap) (biB X pins s3 (upd H2 s2.heap.objs.size o0) scope fp)) (e := e) (depth := 0) (acc := .ref s2.heap.objs.size) (C0.hq _ _ _) (C0.hden _ _ _) (fun _ _ f => f) hc T f4 I4 st4 (hg _) (ht _) (ha _ _) (hW _) w0
 have fin : codeAny (model X.prog X.w) X.A (.compLoop e 0 (.ref it) (.ref s2.heap.objs.size) (envB scope (clB X s3 scope) s3.heap.objs.size X.env))
     (compPost (model X.prog X.w) X.A X.xe use Q' (.ref s2.heap.objs.size) s3.heap.objs.size) { s3 with heap := hpB s3 scope } := codeAny_mono loop fun r s' ⟨σ',H',hr,J',q⟩ => by
   subst hr
   exact out _ _ H' s' q (let ⟨m,hn,_⟩ := J'.loc; ⟨m,hn⟩) (I3.fpOk (Nat.le_refl _) J'.free) fun h' hh => blk_out I3 f3 J' hh
 exact C0.hst _ _ _ _ _ fin fun Q E q => T.self _ 0 _ _ _ st4 q
end
section
variable {X : Cx} {elt kx vx tg iter tg1 iter1 : Expr} {ifs ifs1 : List Expr} {scope : Scope} {pos : Pos}
def tailL (elt : Expr) (D : Addr) (env : Env) : Sem Unit := do let _ <- call (.builtin "list.append") [.ref D,<- eval elt env]
def tailD (kx vx : Expr) (D : Addr) (env : Env) : Sem Unit := do
   let kv <- eval kx env
   let vv <- holding [kv] (eval vx env)
   standAt { kx.pos with endLine := vx.pos.endLine,endCol := vx.pos.endCol }
   holding [kv,vv] (dictSet D kv vv)
def tailI (e iter : Expr) (D : Addr) (env : Env) : Sem Unit := do
     let x <- eval iter env
     standAt iter.pos
     let x <- foldedSetIterable iter env x
     let _ <- runOwn (.compStart e 1 (<- holding [x] (pyIter x)) (.ref D) env) env
theorem turnL2 (it : Value) (D : Addr) (env : Env) : compTurn (.ListComp elt [⟨tg,iter,ifs,0⟩,⟨tg1,iter1,ifs1,0⟩] scope pos) 0 it (.ref D) env = turnC iter.pos tg ifs env it (tailI (.ListComp elt [⟨tg,iter,ifs,0⟩,⟨tg1,iter1,ifs1,0⟩] scope pos) iter1 D env) (.compLoop (.ListComp elt [⟨tg,iter,ifs,0⟩,⟨tg1,iter1,ifs1,0⟩] scope pos) 0 it (.ref D) env) := by
 unfold compTurn turnC tailI
 simp only [List.getElem?_cons_zero,List.getElem?_cons_succ,bne_self_eq_false,Bool.false_eq_true,if_false,bind_assoc,pure_bind]
 rfl
theorem startC {e : Expr} {d : Nat} {gl : Comprehension} {it acc : Value} {env : Env} {R : Result -> Shared -> Prop} {s : Shared} (hf : (Code.compStart e d it acc env).isFrame = false) (hg : (clausesOf e)[d]? = some gl) (ha : gl.is_async = 0) (hu : ∀ A : Around,A.under (.compStart e d it acc env) = A) (hq : (Code.compLoop e d it acc env).quiet = true)
   (hd : (model X.prog X.w).den (.compStart e d it acc env) = (compStart e d it acc env).onRaise (fun x => do noteFrame x env; standAt theWindowsPlace))
   (h0 : codeAny (model X.prog X.w) X.A (.compLoop e d it acc env) R s) (h : ∀ Q E,Q it s -> wpAny (model X.prog X.w) X.A (pyIter it) Q E s) : codeAny (model X.prog X.w) X.A (.compStart e d it acc env) R s := by
 refine codeAny_of_tree ?_
 rw [hu,hd]
 refine wpAny_notedAt ?_
 unfold compStart
 rw [hg]
 simp only [Option.elim_some,ha]
 refine wpAny_bind (wpAny_askSetting (wpAny_ite ?_))
 split
 . exact wpAny_pure (And.intro hq h0)
 . refine wpAny_bind (wpAny_rule (wpAny_bind (wpAny_standAt (wpAny_bind (h _ _ ?_)))))
   exact wpAny_pure (And.intro hq h0)
theorem codeL2 : CodeC X (.ListComp elt [⟨tg,iter,ifs,0⟩,⟨tg1,iter1,ifs1,0⟩] scope pos) 0 iter.pos tg ifs (tailI (.ListComp elt [⟨tg,iter,ifs,0⟩,⟨tg1,iter1,ifs1,0⟩] scope pos) iter1) where
 hq := fun _ _ _ => rfl
 hden := fun it D env Q E s h => by
   show wpAny _ X.A ((compTurn (.ListComp elt [⟨tg,iter,ifs,0⟩,⟨tg1,iter1,ifs1,0⟩] scope pos) 0 (.ref it) (.ref D) env).onRaise (fun x => do noteFrame x env; theTreesLotGoes x)) _ _ s
   exact wpAny_noted (by rw [turnL2]; exact h)
 hst := fun it D env R s h0 h => startC rfl rfl rfl (fun _ => rfl) rfl rfl h0 h
theorem codeL2i : CodeC X (.ListComp elt [⟨tg,iter,ifs,0⟩,⟨tg1,iter1,ifs1,0⟩] scope pos) 1 iter1.pos tg1 ifs1 (tailL elt) where
 hq := fun _ _ _ => rfl
 hden := fun it D env Q E s h => by
   show wpAny _ X.A ((compTurn (.ListComp elt [⟨tg,iter,ifs,0⟩,⟨tg1,iter1,ifs1,0⟩] scope pos) 1 (.ref it) (.ref D) env).onRaise (fun x => do noteFrame x env; theTreesLotGoes x)) _ _ s
   exact wpAny_noted h
 hst := fun it D env R s h0 h => startC rfl rfl rfl (fun _ => rfl) rfl rfl h0 h
theorem new_list {pins : List (Addr × Obj)} {σ : St} {H : Hp} {s : Shared} {Q : Value -> Shared -> Prop} {E : Value -> Shared -> Prop} (I : Inv X pins σ H s)
   (h : Inv X pins σ (upd H s.heap.objs.size (.lst [])) { s with heap := s.heap.push { cls := .type "list",data := .seq ([] : List Value).toArray } } -> Q (.ref s.heap.objs.size) { s with heap := s.heap.push { cls := .type "list",data := .seq ([] : List Value).toArray } }) : wpAny (model X.prog X.w) X.A (newList []) Q E s :=
 wpAny_newObj_type (h (I.lnew (t' := s.toks) (its := []) .nil (Nat.zero_le _)))
theorem new_dict {pins : List (Addr × Obj)} {σ : St} {H : Hp} {s : Shared} {Q : Value -> Shared -> Prop} {E : Value -> Shared -> Prop} (I : Inv X pins σ H s)
   (h : Inv X pins σ (upd H s.heap.objs.size (.dK [])) { s with heap := s.heap.push { cls := .type "dict",data := .dict #[] } } -> Q (.ref s.heap.objs.size) { s with heap := s.heap.push { cls := .type "dict",data := .dict #[] } }) : wpAny (model X.prog X.w) X.A newDict Q E s :=
 wpAny_newObj_type (h (I.laid (a := s.heap.objs.size) (o := .dK []) (t' := s.toks) (fun _ _ q => Heap.get?_push_of_some _ q) (Nat.le_refl _) (dk_empty s.heap I.big)))
end
section
variable {X : Cx} {elt kx vx tg iter tg1 iter1 : Expr} {ifs ifs1 : List Expr} {scope scX : Scope} {pos : Pos} {own cap : List Str} {ix : List Nat} {wi : TI} {g g1 : BI -> TG} {tt tt1 : BI -> TT} {te tk tv : BI -> TE} {wi1 : BI -> TI}
abbrev tComp2 (own : List Str) (ix : List Nat) (wi : TI) (g : BI -> TG) (tt : BI -> TT) (wi1 : BI -> TI) (g1 : BI -> TG) (tt1 : BI -> TT) (te : BI -> TE) : TE := tCompG own ix (.lst []) wi g tt fun b D => aIn (wi1 b) (g1 b) (tt1 b) (aPut2 D (te b))
theorem pe_comp2 (hc : X.calm = true) (hX : X.env.scope = scX) (S : BlkS scX scope X.N own cap ix) (hi : PI X tg iter wi) (hg : ∀ b,PG (blk X scope (own ++ cap) b) tg (g b)) (ht : ∀ b,PIf (blk X scope (own ++ cap) b) ifs (tt b))
   (hi1 : ∀ b,PI (blk X scope (own ++ cap) b) tg1 iter1 (wi1 b)) (hg1 : ∀ b,PG (blk X scope (own ++ cap) b) tg1 (g1 b)) (ht1 : ∀ b,PIf (blk X scope (own ++ cap) b) ifs1 (tt1 b))
   (he : ∀ b,PE (blk X scope (own ++ cap) b) elt (te b)) (hs : ∀ x,foldedSetIterable iter X.env x = pure x := by intro _; rfl) (hs1 : ∀ env x,foldedSetIterable iter1 env x = pure x := by intro _ _; rfl) :
   PE X (.ListComp elt [⟨tg,iter,ifs,0⟩,⟨tg1,iter1,ifs1,0⟩] scope pos) (tComp2 own ix wi g tt wi1 g1 tt1 te) := by
 intro pins s σ H Q I h
 rw [eval_ListComp]
 refine comp_enterG (use := none) rfl codeL2 (fun _ _ _ _ _ _ => new_list) hc hX S hi hg ht (fun b D => pact_in (acc := .ref D) (fun it => (codeL2i (X := blk X scope (own ++ cap) b)).hq it D _) (fun it => (codeL2i (X := blk X scope (own ++ cap) b)).hden it D _) (fun it => (codeL2i (X := blk X scope (own ++ cap) b)).hst it D _) (fun _ _ f => f) hc (hi1 b) (hg1 b) (ht1 b) (pact_put (fun _ _ f => f) (he b)) (hs1 _)) hs I h fun D C H' s' q hn _ hI => ?_
 obtain ⟨m,hn⟩ := hn
 exact ⟨m,hn,fun h' hh => ⟨.ref D,H',hI h' hh,rfl,q⟩⟩
end
end L2
namespace L2
open PySem PySem.Spec PyProof.Rows
section
variable {X : Cx} {pins : List (Addr × Obj)} {σ : St} {H : Hp} {s : Shared} {h' : Heap}
end
def Itr3 (lo c : Int) (n : Nat) : It := ⟨fun i _ => i < n,fun i H x H' => H' = H /\ x = .int (lo + i * c),fun i _ => n <= i⟩
theorem turn_range3 {P : Program} {w : World} {K : PySem.W.Frag} {tg : Expr} (it : Addr) (lo c : Int) (n : Nat) : Turn P w K tg (Itr3 lo c n) [it] it (fun i h => IsRangeIter h it (lo + (i : Nat) * c) ((n : Int) - (i : Nat)) c) where
 mem := by simp
 obj := fun i h st b hb => by
   have e : b = it := by simpa using hb
   subst e
   exact ⟨_,st,fun v z => by cases (show Data.fields _ = Data.cell v from z)⟩
 keep := fun i h h' st k => k it (by simp) _ st
 item := by
   intro X hP hw hK hc i pins s σ H E I hf st hg
   subst hP hw hK
   obtain ⟨f0,f1,f2,f3,f4,f5⟩ := hf it (by simp)
   have W := Walks.range (prog := X.prog) (w := X.w) (I.ok.hd hc) it lo c n
   refine W.item i s _ _ hg st fun v h' tk hv st' kk => ?_
   obtain ⟨t,rfl⟩ := hv
   have I1 : Inv X pins σ H { s with heap := h',toks := tk } := I.turned (fun b o hb e => kk b o (by simpa using hb) e) f0 f1 f3 f4 f5
   exact ⟨_,rfl,go_of (s := { s with heap := h',toks := tk }) (n := "range_iterator") st' rfl rfl (by decide) ⟨.int (lo + i * c),H,I1,⟨t,rfl⟩,⟨rfl,rfl⟩,st',fun b hb => (hf b hb).1⟩⟩
 done := by
   intro X hP hw hK hc i pins s σ H E I hf st hg
   subst hP hw hK
   obtain ⟨f0,f1,f2,f3,f4,f5⟩ := hf it (by simp)
   exact wpAny_pyNext_range_end (I.ok.hd hc) st (by have : n <= i := hg; omega) fun h' eb => ⟨rfl,I.turned (t' := s.toks) (fun b o hb e => eb b o hb e) f0 f1 f3 f4 f5⟩
 self := fun _ _ _ _ _ st h => wpAny_pyIter_rangeiter st h
def iRng3 (ta : TA) : TI := fun σ H R => ta σ H fun vs H1 => ∃ i j c : Int,vs = [.int i,.int j,.int c] /\ (0 <= i /\ i < 1000000 /\ 0 <= j /\ j < 1000000 /\ 0 < c /\ c < 1000000) /\ R (Itr3 i c (Builtin.Range.rangeSize i j c).toNat) H1
theorem pi_range3 {X : Cx} {tg a b c : Expr} {ta : TA} {p pos : Pos} (hg : Gl X "range") (hm : X.mg "range" = none) (ha : PA X [a,b,c] ta) (hs : starEach [a,b,c] X.env = [(false,eval a X.env),(false,eval b X.env),(false,eval c X.env)] := by rfl) (hs2 : starEach [b,c] X.env = [(false,eval b X.env),(false,eval c X.env)] := by rfl) :
   PI X tg (.Call (.Name "range" p) [a,b,c] [] pos) (iRng3 ta) := by
 intro pins s σ H R I h
 refine Call_ (ld_blt I hg hm boot_range (PyProof.Rows.callWith_type1 (thn (ha pos pins s σ H _ I h) fun us s1 ⟨vs,H1,I1,r1,q1⟩ => ?_) (by rw [hs,hs2]) (by rw [hs2]; rfl)))
 obtain ⟨i,j,d,e,⟨q1,q2,q3,q4,q5,q6⟩,q⟩ := q1
 subst e
 cases r1 with
 | cons r rr =>
   cases rr with
   | cons r' rr =>
     cases rr with
     | cons r'' rr =>
       cases rr
       obtain ⟨t,rfl⟩ := r
       obtain ⟨t',rfl⟩ := r'
       obtain ⟨t'',rfl⟩ := r''
       have sz0 : 0 <= Builtin.Range.rangeSize i j d := by
         unfold Builtin.Range.rangeSize
         rw [if_pos q5]
         split
         . have := Int.ediv_nonneg (a := j - i - 1) (b := d) (by omega) (by omega)
           omega
         . exact Int.le_refl 0
       have sz1 : Builtin.Range.rangeSize i j d <= 1000000 := by
         unfold Builtin.Range.rangeSize
         rw [if_pos q5]
         split
         . have := Int.ediv_le_self (a := j - i - 1) d (by omega)
           omega
         . omega
       have fits : ∀ z : Int,-1 <= z -> z <= 3000000 -> Builtin.Range.rangeFitsLong z = true := fun z h1 h2 => by
         unfold Builtin.Range.rangeFitsLong
         simp
         omega
       have small : Builtin.Range.small i j d = true := by
         unfold Builtin.Range.small
         rw [fits i (by omega) (by omega),fits j (by omega) (by omega),fits d (by omega) (by omega),fits _ (by omega) (by omega),if_pos q5,fits (j + (d - 1)) (by omega) (by omega)]
         simp
       refine call_range_3 (by omega) (wpAny_pyIter_range (IsRange.new ..) small ?_) (.inl (PyProof.noPylong_small (by omega)))
       have I2 : Inv X pins σ H1 { s1 with heap := s1.heap.push { cls := .type "range",data := .fields #[.int i t,.int j t',.int d t''] } } := I1.kept (t' := s1.toks) fun b o e => Heap.get?_push_of_some _ e
       refine ⟨(s1.heap.push { cls := .type "range",data := .fields #[.int i t,.int j t',.int d t''] }).objs.size,[(s1.heap.push { cls := .type "range",data := .fields #[.int i t,.int j t',.int d t''] }).objs.size],_,_,H1,rfl,
         I2.kept (t' := s1.toks) fun b o e => Heap.get?_push_of_some _ e,turn_range3 _ i d (Builtin.Range.rangeSize i j d).toNat,?_,fun b hb => ?_,q⟩
       . have e1 : i + ((0 : Nat) : Int) * d = i := by simp
         have e2 : ((Builtin.Range.rangeSize i j d).toNat : Int) - ((0 : Nat) : Int) = Builtin.Range.rangeSize i j d := by omega
         show IsRangeIter _ _ (i + ((0 : Nat) : Int) * d) (((Builtin.Range.rangeSize i j d).toNat : Int) - ((0 : Nat) : Int)) d
         rw [e1,e2]
         exact Heap.get?_push_size _ rfl
       . have e : b = (s1.heap.push { cls := .type "range",data := .fields #[.int i t,.int j t',.int d t''] }).objs.size := by simpa using hb
         subst e
         exact I2.fpOk (Nat.le_refl _) (I2.hok.fresh (Nat.le_refl _))
end L2
namespace L2
open PySem PySem.Spec PyProof.Rows
section
variable {prog : Program} {w : World} {A : Around} {E : Value -> Shared -> Prop} {s : Shared}
end
end L2
namespace L2
open PySem PySem.Spec PyProof.Rows
section
variable {X : Cx}
theorem call_sorted : CallR X (.builtin "sorted") (fun xs H Q => ∃ p ss,xs = [.ref p] /\ SqL X.K H p (ss.map V.str) /\ ss.length < 64 /\ ∀ l ss',H l = none -> ss'.Perm ss -> sortedS ss' = true -> Q (.ref l) (upd H l (.lst (ss'.map V.str)))) := by
 intro pins s σ H xs us Q I r h
 obtain ⟨p,ss,rfl,hq,h64,q⟩ := h
 obtain ⟨u,rfl,ru⟩ := vals1 r
 cases ru
 obtain ⟨its,rv,pl,_⟩ := I.list hq
 have hS := strs_of rv
 have hlen : its.length = ss.length := by rw [<- rv.length,List.length_map]
 refine sorted_strs pl.isList hS (by omega) fun out ss' h1 h2 h3 => ?_
 obtain ⟨e,he⟩ := sortedAll_at s.heap its out
 have hl : ss'.length = ss.length := h2.length_eq
 have sl0 : sizeLine = 16777216 := sizeLine_eq
 refine ⟨.ref (s.heap.objs.size + 1),_,I.laid (t' := s.toks) (o := .lst (ss'.map V.str)) (fun _ _ => sortedAll_old) (Nat.le_succ _) ⟨by rw [List.length_map]; omega,out.toList,e,?_,he⟩,rfl,q _ _ (I.hok.fresh (Nat.le_succ _)) h2 h3⟩
 clear he h2 h3 hl
 generalize out.toList = l at h1
 induction h1 with
 | nil => exact .nil
 | cons x t _ ih => exact .cons ⟨t,rfl⟩ ih
theorem fold_ones (c : Nat) : ∀ (n : Nat) (a : Array Nat),(List.replicate n (#[c] : Array Nat)).foldl (· ++ ·) a = a ++ (List.replicate n c).toArray
 | 0,a => by simp
 | n + 1,a => by
   rw [List.replicate_succ,List.foldl_cons,fold_ones c n,List.replicate_succ]
   apply Array.ext'
   simp
theorem op_mulS : OpR X (binaryOp .Mult) (fun x y H Q => ∃ (c : Nat) (n : Int),x = .str ⟨#[c]⟩ /\ y = .int n /\ 1 <= n /\ n <= 1000 /\ Q (.str ⟨(List.replicate n.toNat c).toArray⟩) H) := by
 intro pins s σ H x y v u Q I rx ry h
 obtain ⟨c,n,rfl,rfl,h1,h2,q⟩ := h
 obtain ⟨t,rfl⟩ := rx
 obtain ⟨t',rfl⟩ := ry
 have n1 : ¬ n < 1 := by omega
 have l1 : (⟨#[c]⟩ : Str).length = 1 := rfl
 refine PySem.P.mul_str (by rw [decide_eq_false (by omega),decide_eq_false (by omega)]; rfl) (fun _ _ z => ?_) (fun _ _ => ?_) ?_
 . rw [l1] at z
   have : (1 : Int) <= (2 ^ 63 - 1) / n := by
     rw [Int.le_ediv_iff_mul_le (by omega)]
     omega
   have z' : ((1 : Nat) : Int) > (2 ^ 63 - 1) / n := z
   omega
 . rw [l1,Nat.one_mul]
   show decide (n.toNat > sizeLine) = false
   rw [decide_eq_false_iff_not,sizeLine_eq]
   omega
 . rw [if_neg n1]
   by_cases e1 : n = 1
   . subst e1
     rw [if_pos (by simp)]
     exact ⟨.str ⟨#[c]⟩,H,I,⟨t,rfl⟩,q⟩
   . rw [if_neg (by
       intro z
       rw [Bool.or_eq_true] at z
       rcases z with z | z
       . exact e1 (beq_iff_eq.mp z)
       . rw [l1] at z; exact absurd z (by decide)),fold_ones]
     have e2 : (#[] : Array Nat) ++ (List.replicate n.toNat c).toArray = (List.replicate n.toNat c).toArray := by simp
     rw [e2]
     refine ⟨?_,?_⟩
     . show (List.replicate n.toNat c).toArray.size <= sizeLine
       rw [List.size_toArray,List.length_replicate,sizeLine_eq]; omega
     . exact ⟨.str _,H,I.tok _,⟨_,rfl⟩,q⟩
end
end L2
namespace L2
open PySem PySem.Spec PyProof.Rows
section
variable {prog : Program} {w : World} {A : Around} {E : Value -> Shared -> Prop} {s : Shared}
end
end L2
namespace L2
open PySem PySem.Spec PyProof.Rows
section
variable {X : Cx}
theorem mt_update : MtM X "dict.update" (fun x xs H Q => ∃ a b kvs more,x = .ref a /\ xs = [.ref b] /\ a ≠ b /\ H a = some (.dK kvs) /\ H b = some (.dK more) /\ kvs.length + more.length <= sizeLine /\ Q .non (upd H a (.dK (mergeK kvs more)))) := by
 intro pins s σ H x xs v us Q I rx rs h
 obtain ⟨a,b,kvs,more,rfl,rfl,ne,ha,hb,hz,q⟩ := h
 cases (show v = Value.ref a from rx)
 obtain ⟨u,rfl,ru⟩ := vals1 rs
 cases ru
 obtain ⟨z1,d1,vs1,rel1,dd1⟩ := dk_of I.hok ha
 obtain ⟨z2,d2,vs2,rel2,dd2⟩ := dk_of I.hok hb
 refine call_meetsIn PySem.F.slot_dict_update dd1.typeIs PySem.F.entry_dict_update (PySem.F.args_dict_update_2 _ _) (meets_dict_update (mixKind X.prog X.w) a b ne d2) ⟨vs1,vs2,dd1,dd2,by rw [<- rel1.length,<- rel2.length]; exact hz,fun h' m1 m2 sb => ?_⟩
 have he : ∃ q,h'.get? a = some q := let ⟨q,_,_,hq,_⟩ := m1; ⟨q,hq⟩
 have hl : (mergeK kvs more).length <= sizeLine := by
   refine Nat.le_trans ?_ hz
   clear hz q rel2 dd2 m1 m2 hb z2 ha rel1 dd1 z1
   induction more generalizing kvs with
   | nil => exact Nat.le_refl _
   | cons p r ih =>
     have h1 := ih (kvs := putK kvs p.1 p.2)
     have h2 := length_putK kvs p.1 p.2
     show (mergeK (putK kvs p.1 p.2) r).length <= _
     rw [List.length_cons]
     omega
 exact ⟨.non,_,d_write I (by rw [ha]; exact True.intro) sb he (dk_new hl d1 (rel2.merge rel1) m1),rfl,q⟩
end
section
variable {prog : Program} {w : World} {A : Around} {E : Value -> Shared -> Prop} {s : Shared}
theorem sorted_by {x : Value} {ss : List Str} {Q : Value -> Shared -> Prop} (h64 : ss.length < 64)
   (col : ∀ (R : List Value -> Shared -> Prop),(∀ (h' : Heap) (tk : Nat) (vs : List Value),(∀ b o,s.heap.get? b = some o -> h'.get? b = some o) -> StrsAre vs ss -> R vs { s with heap := h',toks := tk }) -> wpAny (model prog w) A.in1 (collect x) R E s)
   (h : ∀ (h1 h' : Heap) (tk : Nat) (out : List Value) (ss' : List Str) (n : Nat),(∀ b o,s.heap.get? b = some o -> h1.get? b = some o) -> (∀ b o,h1.get? b = some o -> h'.get? b = some o) -> h'.get? h1.objs.size = some (seqObj "list" out.toArray n) -> StrsAre out ss' -> ss'.Perm ss -> sortedS ss' = true -> Q (.ref h1.objs.size) { s with heap := h',toks := tk }) :
   wpAny (model prog w) A (call (.builtin "sorted") [x]) Q E s := by
 refine Calls.call_function_entry kind_sorted plain_sorted entry_sorted (args_sorted1 _) ?_
 unfold Builtin.«sorted»
 refine wpAny_bind (m := checkCount "sorted" 1 1 _) (wpAny_pure ?_)
 refine wpAny_bind (col _ fun h' tk vs kk hS => ?_)
 have hl : vs.length = ss.length := by rw [<- hS.strs,List.length_map]
 have sl0 : sizeLine = 16777216 := sizeLine_eq
 refine wpAny_bind (wpAny_newList ?_ (by omega))
 have g0 : (h'.push (seqObj "list" vs.toArray 0)).get? h'.objs.size = some (seqObj "list" vs.toArray 0) := Heap.get?_push_size _ rfl
 refine wpAny_bind (wpAny_holding (wpAny_call_entry slot_list_sort (s := { s with heap := h'.push (seqObj "list" vs.toArray 0),toks := tk }) ⟨_,g0,rfl⟩ entry_list_sort
   (list_sort_treeK (s := { s with heap := h'.push (seqObj "list" vs.toArray 0),toks := tk }) strKind_oneLt g0 hS.keysOf (fun v₁ v₂ rest e => keyKind_strs (by rw [<- e]; exact hS)) (by omega) fun st' p1 p2 => ⟨_,rfl,?_⟩) (args_list_sort _)))
 obtain ⟨ss',q1,q2,q3⟩ := sorted_out_str hS p1 p2
 obtain ⟨n,hn⟩ := sortedHeap_at (vs := vs) (out := (arrOf st').map (·.2)) g0
 refine wpAny_pure ⟨_,rfl,h h' _ tk ((arrOf st').map (·.2)).toList ss' n kk (fun b o e1 => ?_) (by rw [Array.toArray_toList]; exact hn) q1 q2 q3⟩
 have lt : b < h'.objs.size := Heap.lt_size e1
 show (sortedHeap (h'.push (seqObj "list" vs.toArray 0)) h'.objs.size vs _).get? b = some o
 rw [sortedHeap_old (Nat.ne_of_lt lt) (by rw [Heap.size_push]; exact Nat.lt_succ_of_lt lt)]
 exact Heap.get?_push_of_some _ e1
end
section
variable {X : Cx}
theorem strs_to : ∀ {ss : List Str} {us : List Value},StrsAre us ss -> Vals (ss.map V.str) us := by
 intro ss us h
 induction h with
 | nil => exact .nil
 | cons x t _ ih => exact .cons ⟨t,rfl⟩ ih
theorem strs_at : ∀ {ss : List Str} {us : List Value},us.length = ss.length -> (∀ (i : Nat) (v : Value),us[i]? = some v -> ∃ x t,ss[i]? = some x /\ v = .str x t) -> StrsAre us ss
 | [],[],_,_ => .nil
 | x :: ss,u :: us,hl,h => by
   obtain ⟨y,t,e,rfl⟩ := h 0 u rfl
   cases (show some x = some y from e)
   exact .cons x t (strs_at (by simpa using hl) fun i v e => h (i + 1) v (by simpa using e))
 | [],_ :: _,hl,_ => by simp at hl
 | _ :: _,[],hl,_ => by simp at hl
theorem call_sortedD (hc : X.calm = true) : CallR X (.builtin "sorted") (fun xs H Q => ∃ p kvs ss,xs = [.ref p] /\ H p = some (.dK kvs) /\ kvs.map (·.1) = ss.map Sum.inr /\ ss.length < 64 /\ ∀ l ss',H l = none -> ss'.Perm ss -> sortedS ss' = true -> Q (.ref l) (upd H l (.lst (ss'.map V.str)))) := by
 intro pins s σ H xs us Q I r h
 obtain ⟨p,kvs,ss,rfl,hp,hk,h64,q⟩ := h
 obtain ⟨u,rfl,ru⟩ := vals1 r
 cases ru
 obtain ⟨z,d,vs,rel,dd⟩ := dk_of I.hok hp
 have hl : kvs.length = ss.length := by have := congrArg List.length hk; simpa using this
 have hvl : vs.length = ss.length := by rw [<- rel.length]; exact hl
 have sl0 : sizeLine = 16777216 := sizeLine_eq
 obtain ⟨ep,hat⟩ := dd.dictAt
 refine sorted_by h64 (fun R hR => PySem.W.kdu_collect (A := X.A.in1) (PySem.W.kdl_dict (knd := mixKind X.prog X.w) (kvs := vs) (ep := ep) d) (by simpa using I.ok.hd hc) hat (by omega) fun h' tk acc kk hacc => hR h' tk acc.toList kk ?_) fun h1 h' tk out ss' n k1 k2 ho hS hp2 hs => ?_
 . refine strs_at (by rw [Array.length_toList]; exact hacc.1.trans hvl) fun i v e => ?_
   obtain ⟨k,x,ek,hk'⟩ := hacc.2 i v (by simpa using e)
   have ek2 : (kvs.map (·.1))[i]? = some k := by
     rw [rel.keys,List.getElem?_map,ek]; rfl
   rw [hk,List.getElem?_map] at ek2
   cases es : ss[i]? with
   | none => rw [es] at ek2; cases ek2
   | some y =>
     rw [es] at ek2
     cases (show some (Sum.inr y : Key) = some k from ek2)
     rcases keyIs_shape (show keyIs (Sum.inr y) v = true from hk') with ⟨j,t,e1,e2⟩ | ⟨x',t,e1,e2⟩ | ⟨e1,e2⟩
     . cases e1
     . cases e1
       exact ⟨y,t,rfl,e2⟩
     . cases e1
 . have I1 : Inv X pins σ H { s with heap := h1,toks := tk } := I.kept k1
   have hl' : ss'.length = ss.length := hp2.length_eq
   exact ⟨.ref h1.objs.size,_,I1.laid (t' := tk) (o := .lst (ss'.map V.str)) k2 (Nat.le_refl _) ⟨by rw [List.length_map]; omega,out,n,strs_to hS,ho⟩,rfl,q _ _ (I1.hok.fresh (Nat.le_refl _)) hp2 hs⟩
end
end L2
namespace L2
open PySem PySem.Spec PyProof.Rows
def RawD (h : Heap) (d : Addr) (es : Array DictEntry) (ep : Nat) : Prop := ∃ o,h.get? d = some o /\ o.ExactDict /\ o.data = .dict es ep
section
variable {prog : Program} {w : World} {A : Around} {E : Value -> Shared -> Prop} {s : Shared}
theorem RawD.typ {d : Addr} {es : Array DictEntry} {ep : Nat} (R : RawD s.heap d es ep) : s.TypeIs (.ref d) "dict" := let ⟨o,e,x,_⟩ := R; ⟨o,e,x.1⟩
theorem rawIter {d : Addr} {es : Array DictEntry} {ep : Nat} {Q : Value -> Shared -> Prop} (nS : (d == sysModules) = false) (R : RawD s.heap d es ep)
   (q : Q (.ref s.heap.objs.size) { s with heap := s.heap.push { cls := .type "dict_keyiterator",data := .fields #[.ref d,.int 0 0,.int es.size 0,.int ep 0] } }) : wpAny (model prog w) A (pyIter (.ref d)) Q E s := by
 have T := R.typ
 obtain ⟨o,e,_,dat⟩ := R
 refine wpAny_pyIter_slot T PySem.F.slot_dict_iter (wpAny_call_entry PySem.F.slot_dict_iter T PySem.F.entry_dict_iter ?_ (PySem.F.args_dict_iter_1 _))
 unfold Builtin.«dict.__iter__»
 refine wpAny_bind ?_
 unfold Builtin.Dict.dictSlotNone
 refine wpAny_bind (wpAny_notOrdered_dict T ?_)
 show wpAny _ _ (pure (Value.ref d)) _ _ s
 refine wpAny_pure ?_
 show wpAny _ _ (Builtin.Dict.showsAll d >>= _) _ _ s
 unfold Builtin.Dict.showsAll
 rw [if_neg (by rw [nS]; exact Bool.false_ne_true)]
 refine wpAny_bind (wpAny_pure (wpAny_bind (wpAny_dictEntries e dat (wpAny_bind (wpAny_dictEpoch e dat ?_)))))
 refine wpAny_bind (wpAny_newObj_type (wpAny_pure ⟨_,rfl,"dict_keyiterator",_,⟨_,Heap.get?_push_size _ rfl,rfl⟩,PySem.F.slot_dict_keyiterator_next.lookup,?_⟩))
 simpa [rawInt] using q
theorem rawItem {it d : Addr} {i ep : Nat} {es : Array DictEntry} {Q : Option Value -> Shared -> Prop} (K : s.heap.IsKeyIter it d i es.size ep) (R : RawD s.heap d es ep) (lt : i < es.size)
   (q : ∀ h',h'.IsKeyIter it d (i + 1) es.size ep -> Heap.SameBut it s.heap h' -> Q (some es[i].key) { s with heap := h' }) : wpAny (model prog w) A (pyNext (.ref it)) Q E s := by
 obtain ⟨o,e,c,dt⟩ := id K
 obtain ⟨od,e2,_,dd⟩ := R
 unfold pyNext
 refine wpAny_bind (wpAny_attempt (wpAny_callSpecial?_slot (name := Str.ofString "__next__") K.typeIs PySem.F.slot_dict_keyiterator_next (wpAny_call_entry PySem.F.slot_dict_keyiterator_next K.typeIs PySem.F.entry_dict_keyiterator_next ?_ (PySem.F.args_dict_keyiterator_next_1 _))))
 refine wpAny_bind (wpAny_pure (wpAny_bind (wpAny_bind ?_)))
 first | refine wpAny_bind (wpAny_typeNameOfWhole_keyiter K.typeIs (wpAny_pure ?_)) | refine wpAny_bind (wpAny_typeNameOf_keyiter K.typeIs (wpAny_pure ?_))
 refine wpAny_bind (wpAny_fieldsOf e dt ?_)
 have own : Builtin.Dict_items.ownsTuple "dict_keyiterator" = false := by decide
 simp only [own,Bool.false_eq_true,if_false]
 show wpAny _ _ (if (Value.ref d == Value.none) = true then _ else _) _ _ s
 rw [if_neg (show ¬ ((Value.ref d == Value.none) = true) from Bool.false_ne_true)]
 refine wpAny_bind (wpAny_pure (wpAny_bind (wpAny_dictEntries e2 dd ?_)))
 rw [if_neg (by simp)]
 refine wpAny_bind (wpAny_pure (wpAny_bind (wpAny_dictEpoch e2 dd ?_)))
 rw [if_neg (by simp)]
 refine wpAny_pure ?_
 simp only [show ¬ ((i : Int) < 0) from by omega,if_false,Int.toNat_natCast,Array.getElem?_eq_getElem lt]
 refine wpAny_bind ?_
 first | refine wpAny_bind (wpAny_typeNameOfWhole_keyiter K.typeIs (wpAny_pure ?_)) | refine wpAny_bind (wpAny_typeNameOf_keyiter K.typeIs (wpAny_pure ?_))
 refine wpAny_bind (wpAny_isOneOf_keyiter K.typeIs ?_)
 show wpAny _ _ (setField (.ref it) 1 (rawInt ((i : Int) + 1)) >>= _) _ _ s
 refine wpAny_bind (wpAny_setField e dt (by simp) ?_)
 have K' : (s.heap.update it (Obj.mapFields (·.setIfInBounds 1 (rawInt ((i : Int) + 1))))).IsKeyIter it d (i + 1) es.size ep := ⟨_,Heap.get?_update_self _ e (Obj.isFreed_of_fields (Obj.data_mapFields dt _)),(Obj.cls_mapFields ..).trans c,by rw [Obj.data_mapFields dt]; simp [rawInt]⟩
 refine wpAny_bind (wpAny_holding (wpAny_bind (wpAny_isOneOf_keyiter (s := { s with heap := s.heap.update it (Obj.mapFields (·.setIfInBounds 1 (rawInt ((i : Int) + 1)))) }) K'.typeIs ?_)))
 show wpAny _ _ (pure es[i].key) _ _ _
 exact wpAny_pure (wpAny_pure ⟨_,rfl,wpAny_pure (q _ K' (Heap.SameBut.update ..))⟩)
theorem rawEnd {it d : Addr} {ep : Nat} {es : Array DictEntry} {Q : Option Value -> Shared -> Prop} (hh : A.handled = none) (K : s.heap.IsKeyIter it d es.size es.size ep) (R : RawD s.heap d es ep) (q : ∀ h',Heap.ExtBut it s.heap h' -> Q none { s with heap := h' }) :
   wpAny (model prog w) A (pyNext (.ref it)) Q E s := by
 obtain ⟨o,e,c,dt⟩ := id K
 obtain ⟨od,e2,_,dd⟩ := R
 unfold pyNext
 refine wpAny_bind (wpAny_attempt (wpAny_callSpecial?_slot (name := Str.ofString "__next__") K.typeIs PySem.F.slot_dict_keyiterator_next (wpAny_call_entry PySem.F.slot_dict_keyiterator_next K.typeIs PySem.F.entry_dict_keyiterator_next ?_ (PySem.F.args_dict_keyiterator_next_1 _))))
 refine wpAny_bind (wpAny_pure (wpAny_bind (wpAny_bind ?_)))
 first | refine wpAny_bind (wpAny_typeNameOfWhole_keyiter K.typeIs (wpAny_pure ?_)) | refine wpAny_bind (wpAny_typeNameOf_keyiter K.typeIs (wpAny_pure ?_))
 refine wpAny_bind (wpAny_fieldsOf e dt ?_)
 have own : Builtin.Dict_items.ownsTuple "dict_keyiterator" = false := by decide
 simp only [own,Bool.false_eq_true,if_false]
 show wpAny _ _ (if (Value.ref d == Value.none) = true then _ else _) _ _ s
 rw [if_neg (show ¬ ((Value.ref d == Value.none) = true) from Bool.false_ne_true)]
 refine wpAny_bind (wpAny_pure (wpAny_bind (wpAny_dictEntries e2 dd ?_)))
 rw [if_neg (by simp)]
 refine wpAny_bind (wpAny_pure (wpAny_bind (wpAny_dictEpoch e2 dd ?_)))
 rw [if_neg (by simp)]
 refine wpAny_pure ?_
 simp only [show ¬ ((es.size : Int) < 0) from by omega,if_false,Int.toNat_natCast,Array.getElem?_eq_none (Nat.le_refl es.size)]
 refine wpAny_bind ?_
 first | refine wpAny_bind (wpAny_typeNameOfWhole_keyiter K.typeIs (wpAny_pure ?_)) | refine wpAny_bind (wpAny_typeNameOf_keyiter K.typeIs (wpAny_pure ?_))
 show wpAny _ _ (setField (.ref it) 0 .none >>= _) _ _ s
 refine wpAny_bind (wpAny_setField e dt (by simp) ?_)
 show wpAny _ _ (newExc (.type "StopIteration") [] >>= _) _ _ _
 refine wpAny_bind ?_
 simp only [newExc,newTuple]
 refine wpAny_bind (wpAny_newObj_type ?_ (by size_fits))
 refine wpAny_bind (m := firstArgMember _ _) (wpAny_of_eq (a := Value.none) (by first | rfl | (simp only [firstArgMember]; rfl)) (wpAny_newObj_type ?_ (by size_fits)))
 simp only [raiseNew]
 refine wpAny_bind (wpAny_handled ?_)
 rw [show A.in1.handled = none from hh]
 refine (wpAny_bind (wpAny_pure (wpAny_throw ?_)))
 refine (wpAny_bind (wpAny_isInstance (T := "StopIteration") (b := true) ⟨_,Heap.get?_push_size _ rfl,rfl⟩ isSubtype_stop ?_))
 exact wpAny_pure (q _ (((Heap.SameBut.update ..).extBut.push _).push _))
theorem rawSrc {d : Addr} {es : Array DictEntry} {ep : Nat} (nS : (d == sysModules) = false) : PySem.W.KdlSrc prog w "dict" d d es.size (fun i v => ∃ e,es[i]? = some e /\ v = e.key) (fun h => RawD h d es ep) where
 type := fun _ R => R.typ
 there := fun _ R => let ⟨_,e,_⟩ := R; ⟨Heap.lt_size e,Heap.lt_size e⟩
 keep := fun _ _ R hk => let ⟨o,e,r⟩ := R; ⟨o,hk d (.inl rfl) o e,r⟩
 notList := by decide
 notTuple := by decide
 hint := fun _ _ _ _ R q => PySem.W.kdl_hint_dict R.typ q
 iter := fun A s hh R => by
   have lt : d < s.heap.objs.size := let ⟨_,e,_⟩ := R; Heap.lt_size e
   have ne : d ≠ s.heap.objs.size := Nat.ne_of_lt lt
   refine ⟨_,fun i h => h.IsKeyIter s.heap.objs.size d i es.size ep /\ RawD h d es ep,(fun _ _ q => rawIter nS R q),⟨fun b hb => by simp at hb; simp [hb],fun i h h' st hk => ?_,fun i s' Q E hi st q => ?_,fun s' Q E st q => ?_,fun i s' Q E st q => wpAny_pyIter_keyiter st.1 q⟩,⟨⟨_,Heap.get?_push_size _ rfl,rfl,rfl⟩,let ⟨o,e,r⟩ := R; ⟨o,Heap.get?_push_of_some _ e,r⟩⟩⟩
   . obtain ⟨⟨o,e,r⟩,⟨o2,e2,r2⟩⟩ := st
     exact ⟨⟨o,hk _ (by simp) o e,r⟩,⟨o2,hk d (by simp) o2 e2,r2⟩⟩
   . refine rawItem st.1 st.2 hi fun h' K' sb => ?_
     exact q _ h' s'.toks ⟨es[i],by simp [hi],rfl⟩ ⟨K',let ⟨o,e,r⟩ := st.2; ⟨o,sb.extBut d o ne e,r⟩⟩ fun b o hb e => sb.extBut b o (fun z => hb (by simp [z])) e
   . exact rawEnd hh st.1 st.2 fun h' he => q h' s'.toks fun b o hb e => he b o (fun z => hb (by simp [z])) e
end
end L2
namespace L2
open PySem PySem.Spec PyProof.Rows PySem.W
def runOk {α : Type} (n : Nat) (lt : Nat -> Nat -> Bool) : KasT α -> Option α
 | .ret a => some a
 | .ask i j k => if i < n /\ j < n then runOk n lt (k (lt i j)) else none
theorem runOk_wp {α : Type} {n : Nat} {lt : Nat -> Nat -> Bool} {ask : Nat -> Nat -> (Bool -> Shared -> Prop) -> Shared -> Prop} {s : Shared} (ha : ∀ i j C,i < n -> j < n -> C (lt i j) s -> ask i j C s) : ∀ (t : KasT α) (a : α) (Q : α -> Shared -> Prop),runOk n lt t = some a -> Q a s -> t.kasWp ask Q s
 | .ret b,a,Q,h,q => by
   cases (show some b = some a from h)
   exact q
 | .ask i j k,a,Q,h,q => by
   have h' : (if i < n /\ j < n then runOk n lt (k (lt i j)) else none) = some a := h
   by_cases c : i < n /\ j < n
   . rw [if_pos c] at h'
     exact ha i j _ c.1 c.2 (runOk_wp ha (k (lt i j)) a Q h' q)
   . rw [if_neg c] at h'; cases h'
theorem runOk_eq {α : Type} {n : Nat} {lt lt' : Nat -> Nat -> Bool} (h : ∀ i j,i < n -> j < n -> lt i j = lt' i j) : ∀ t : KasT α,runOk n lt t = runOk n lt' t
 | .ret _ => rfl
 | .ask i j k => by
   show (if i < n /\ j < n then runOk n lt (k (lt i j)) else none) = if i < n /\ j < n then runOk n lt' (k (lt' i j)) else none
   by_cases c : i < n /\ j < n
   . rw [if_pos c,if_pos c,h i j c.1 c.2]; exact runOk_eq h _
   . rw [if_neg c,if_neg c]
def rk (r : List Nat) (i j : Nat) : Bool := decide (r.getD i 0 < r.getD j 0)
def checkP (n : Nat) (r : List Nat) : Bool := match runOk n (rk r) (kas_sort n) with
 | some p => (p.toList.map fun i => r.getD i 0) == List.range n && p.toList.all fun i => decide (i < n)
 | none => false
def insAll (x : Nat) : List Nat -> List (List Nat)
 | [] => [[x]]
 | y :: l => (x :: y :: l) :: (insAll x l).map (y :: ·)
def perms : List Nat -> List (List Nat)
 | [] => [[]]
 | x :: l => (perms l).flatMap (insAll x)
theorem mem_insAll (x : Nat) : ∀ (a b : List Nat),a ++ x :: b ∈ insAll x (a ++ b)
 | [],[] => List.mem_cons_self
 | [],_ :: _ => List.mem_cons_self
 | y :: a,b => List.mem_cons_of_mem _ (List.mem_map.mpr ⟨_,mem_insAll x a b,rfl⟩)
theorem mem_perms : ∀ (l l' : List Nat),l'.Perm l -> l' ∈ perms l
 | [],l',h => by rw [List.Perm.eq_nil h]; exact List.mem_cons_self
 | x :: l,l',h => by
   obtain ⟨a,b,rfl⟩ := List.append_of_mem (h.mem_iff.mpr List.mem_cons_self)
   have h2 : (a ++ b).Perm l := (List.perm_middle.symm.trans h).cons_inv
   exact List.mem_flatMap.mpr ⟨a ++ b,mem_perms l _ h2,mem_insAll x a b⟩
theorem check6 : ((List.range 7).all fun n => n < 2 || (perms (List.range n)).all (checkP n)) = true := by decide +kernel
theorem check_of {n : Nat} {r : List Nat} (h2 : 2 <= n) (h6 : n <= 6) (hr : r.Perm (List.range n)) : checkP n r = true := by
 have h := List.all_eq_true.mp check6 n (List.mem_range.mpr (by omega))
 rw [Bool.or_eq_true] at h
 rcases h with h | h
 . have := of_decide_eq_true h; omega
 . exact List.all_eq_true.mp h r (mem_perms _ _ hr)
structure Strict {κ : Type} (lt : κ -> κ -> Bool) : Prop where
 irr : ∀ a,lt a a = false
 trans : ∀ a b c,lt a b = true -> lt b c = true -> lt a c = true
 tot : ∀ a b,a ≠ b -> lt a b = true ∨ lt b a = true
section
variable {κ : Type} {lt : κ -> κ -> Bool} (S : Strict lt)
include S
def rankOf (lt : κ -> κ -> Bool) (ks : List κ) (k : κ) : Nat := ks.countP fun k' => lt k' k
omit S in
theorem countP_lt {p q : κ -> Bool} {ks : List κ} (h : ∀ x ∈ ks,p x = true -> q x = true) {z : κ} (hz : z ∈ ks) (h1 : p z = false) (h2 : q z = true) : ks.countP p < ks.countP q := by
 induction ks with
 | nil => cases hz
 | cons x l ih =>
   have hl : l.countP p <= l.countP q := List.countP_mono_left fun y hy => h y (List.mem_cons_of_mem _ hy)
   rcases List.mem_cons.mp hz with e | e
   . subst e
     rw [List.countP_cons,List.countP_cons,h1,h2]
     simp; omega
   . have hlt := ih (fun y hy => h y (List.mem_cons_of_mem _ hy)) e
     rw [List.countP_cons,List.countP_cons]
     cases hp : p x with
     | false => simp; omega
     | true => rw [h x List.mem_cons_self hp]; simp; omega
theorem rank_lt {ks : List κ} {a b : κ} (ha : a ∈ ks) (h : lt a b = true) : rankOf lt ks a < rankOf lt ks b :=
 countP_lt (fun x _ hx => S.trans _ _ _ hx h) ha (S.irr a) h
theorem rank_iff {ks : List κ} {a b : κ} (ha : a ∈ ks) (hb : b ∈ ks) : decide (rankOf lt ks a < rankOf lt ks b) = lt a b := by
 cases h : lt a b with
 | true => exact decide_eq_true (rank_lt S ha h)
 | false =>
   refine decide_eq_false fun z => ?_
   rcases Classical.em (a = b) with e | e
   . subst e; omega
   . rcases S.tot a b e with q | q
     . rw [h] at q; cases q
     . have := rank_lt S hb q; omega
theorem rank_bound {ks : List κ} {a : κ} (ha : a ∈ ks) : rankOf lt ks a < ks.length := by
 have h := countP_lt (p := fun k' => lt k' a) (q := fun _ => true) (ks := ks) (fun _ _ _ => rfl) ha (S.irr a) rfl
 rw [List.countP_true] at h
 exact h
theorem ranks_perm {ks : List κ} (hn : ks.Nodup) : (ks.map (rankOf lt ks)).Perm (List.range ks.length) := by
 have nd : (ks.map (rankOf lt ks)).Nodup := by
   rw [List.nodup_iff_pairwise_ne,List.pairwise_map]
   refine List.Pairwise.imp_of_mem (fun {a b} ha hb h => ?_) (List.nodup_iff_pairwise_ne.mp hn)
   intro z
   rcases S.tot a b h with q | q
   . have := rank_lt S ha q; omega
   . have := rank_lt S hb q; omega
 have sub : (ks.map (rankOf lt ks)) ⊆ List.range ks.length := fun x hx => by
   obtain ⟨k,hk,rfl⟩ := List.mem_map.mp hx
   exact List.mem_range.mpr (rank_bound S hk)
 rw [List.perm_ext_iff_of_nodup nd List.nodup_range]
 intro x
 constructor
 . exact fun h => sub h
 . intro h
   apply Classical.byContradiction
   intro hx
   have h1 : (x :: ks.map (rankOf lt ks)).Nodup := List.nodup_cons.mpr ⟨hx,nd⟩
   have h2 : (x :: ks.map (rankOf lt ks)) ⊆ List.range ks.length := fun y hy => by
     rcases List.mem_cons.mp hy with e | e
     . rw [e]; exact h
     . exact sub e
   have := h1.length_le_of_subset h2
   rw [List.length_cons,List.length_map,List.length_range] at this
   omega
theorem sort_few {ks : List κ} (hn : ks.Nodup) (h2 : 2 <= ks.length) (h6 : ks.length <= 6) (d : κ) :
   ∃ p : Array Nat,runOk ks.length (fun i j => lt (ks.getD i d) (ks.getD j d)) (kas_sort ks.length) = some p /\ (p.toList.map fun i => ks.getD i d).Perm ks /\ (p.toList.map fun i => ks.getD i d).Pairwise (fun a b => lt a b = true) /\ ∀ i ∈ p.toList,i < ks.length := by
 have hp := ranks_perm S hn
 have hc := check_of h2 h6 hp
 have at' : ∀ i,i < ks.length -> (ks.map (rankOf lt ks)).getD i 0 = rankOf lt ks (ks.getD i d) := fun i hi => by
   simp [List.getD,List.getElem?_map,List.getElem?_eq_getElem hi]
 have mem : ∀ i,i < ks.length -> ks.getD i d ∈ ks := fun i hi => by
   simp only [List.getD,List.getElem?_eq_getElem hi,Option.getD_some]
   exact List.getElem_mem hi
 have e : runOk ks.length (fun i j => lt (ks.getD i d) (ks.getD j d)) (kas_sort ks.length) = runOk ks.length (rk (ks.map (rankOf lt ks))) (kas_sort ks.length) := runOk_eq (fun i j hi hj => by
   unfold rk
   rw [at' i hi,at' j hj,rank_iff S (mem i hi) (mem j hj)]) _
 unfold checkP at hc
 rw [<- e] at hc
 cases hr : runOk ks.length (fun i j => lt (ks.getD i d) (ks.getD j d)) (kas_sort ks.length) with
 | none => rw [hr] at hc; cases hc
 | some p =>
   rw [hr] at hc
   have hc' := Bool.and_eq_true_iff.mp hc
   have h1 : (p.toList.map fun i => (ks.map (rankOf lt ks)).getD i 0) = List.range ks.length := by simpa using hc'.1
   have hb : ∀ i ∈ p.toList,i < ks.length := fun i hi => of_decide_eq_true (List.all_eq_true.mp hc'.2 i hi)
   have h1' : (p.toList.map fun i => rankOf lt ks (ks.getD i d)) = List.range ks.length := by
     rw [<- h1]
     exact List.map_congr_left fun i hi => (at' i (hb i hi)).symm
   have pw : (p.toList.map fun i => ks.getD i d).Pairwise (fun a b => lt a b = true) := by
     have h3 : (p.toList.map fun i => rankOf lt ks (ks.getD i d)).Pairwise (· < ·) := by rw [h1']; exact List.pairwise_lt_range
     rw [List.pairwise_map] at h3 ⊢
     refine List.Pairwise.imp_of_mem (fun {a b} ha hb' h => ?_) h3
     rw [<- rank_iff S (mem a (hb a ha)) (mem b (hb b hb'))]
     exact decide_eq_true h
   refine ⟨p,rfl,?_,pw,hb⟩
   have nd : (p.toList.map fun i => ks.getD i d).Nodup := by
     rw [List.nodup_iff_pairwise_ne]
     refine pw.imp fun {a b} h z => ?_
     subst z
     rw [S.irr] at h; cases h
   rw [List.perm_ext_iff_of_nodup nd hn]
   have sub : (p.toList.map fun i => ks.getD i d) ⊆ ks := fun x hx => by
     obtain ⟨i,hi,rfl⟩ := List.mem_map.mp hx
     exact mem i (hb i hi)
   have len : (p.toList.map fun i => ks.getD i d).length = ks.length := by
     have := congrArg List.length h1'
     rw [List.length_map,List.length_range] at this
     rw [List.length_map]; exact this
   intro x
   constructor
   . exact fun h => sub h
   . intro h
     apply Classical.byContradiction
     intro hx
     have q1 : (x :: p.toList.map fun i => ks.getD i d).Nodup := List.nodup_cons.mpr ⟨hx,nd⟩
     have q2 : (x :: p.toList.map fun i => ks.getD i d) ⊆ ks := fun y hy => by
       rcases List.mem_cons.mp hy with e | e
       . rw [e]; exact h
       . exact sub e
     have := q1.length_le_of_subset q2
     rw [List.length_cons,len] at this
     omega
end
end L2
namespace L2
open PySem PySem.Spec PyProof.Rows PySem.W
def slt (a b : Str) : Bool := decide (a.cps.toList < b.cps.toList)
theorem str_ext {a b : Str} (h : a.cps.toList = b.cps.toList) : a = b := by
 cases a; cases b
 congr 1
 exact Array.toList_inj.mp h
theorem slt_strict : Strict slt where
 irr := fun a => decide_eq_false (List.lt_irrefl _)
 trans := fun a b c h1 h2 => decide_eq_true (List.lt_trans (of_decide_eq_true h1) (of_decide_eq_true h2))
 tot := fun a b h => by
   rcases Classical.em (a.cps.toList < b.cps.toList) with q | q
   . exact .inl (decide_eq_true q)
   . rcases Classical.em (b.cps.toList < a.cps.toList) with q2 | q2
     . exact .inr (decide_eq_true q2)
     . exact absurd (str_ext (List.le_antisymm q2 q)) h
def plt (a b : Str × Str) : Bool := if a.1 = b.1 then (if a.2 = b.2 then false else slt a.2 b.2) else slt a.1 b.1
theorem plt_strict : Strict plt where
 irr := fun a => by unfold plt; simp
 trans := fun a b c h1 h2 => by
   unfold plt at h1 h2 ⊢
   have T := slt_strict.trans
   have R := slt_strict.irr
   by_cases e1 : a.1 = b.1
   . rw [if_pos e1] at h1
     by_cases e2 : b.1 = c.1
     . rw [if_pos e2] at h2
       rw [if_pos (e1.trans e2)]
       by_cases f1 : a.2 = b.2
       . rw [if_pos f1] at h1; cases h1
       . rw [if_neg f1] at h1
         by_cases f2 : b.2 = c.2
         . rw [if_pos f2] at h2; cases h2
         . rw [if_neg f2] at h2
           have h3 := T _ _ _ h1 h2
           rw [if_neg (fun z => by rw [z,R] at h3; cases h3)]
           exact h3
     . rw [if_neg e2] at h2
       rw [if_neg (fun z => e2 (e1.symm.trans z)),e1]
       exact h2
   . rw [if_neg e1] at h1
     by_cases e2 : b.1 = c.1
     . rw [if_neg (fun z => e1 (z.trans e2.symm)),<- e2]
       exact h1
     . rw [if_neg e2] at h2
       have h3 := T _ _ _ h1 h2
       rw [if_neg (fun z => by rw [z,R] at h3; cases h3)]
       exact h3
 tot := fun a b h => by
   unfold plt
   by_cases e : a.1 = b.1
   . have f : a.2 ≠ b.2 := fun z => h (Prod.ext e z)
     rw [if_pos e,if_neg f,if_pos e.symm,if_neg (Ne.symm f)]
     exact slt_strict.tot _ _ f
   . rw [if_neg e,if_neg (Ne.symm e)]
     exact slt_strict.tot _ _ e
def PairAt (h : Heap) (a : Addr) (v : Value) (k : Str × Str) : Prop := ∃ b o m t u,v = .ref b /\ b ≠ a /\ h.get? b = some o /\ o.cls = .type "tuple" /\ o.data = .seq #[.str k.1 t,.str k.2 u] m
inductive PairsAt (h : Heap) (a : Addr) : List Value -> List (Str × Str) -> Prop
 | nil : PairsAt h a [] []
 | cons {v : Value} {vs : List Value} {k : Str × Str} {ks : List (Str × Str)} : PairAt h a v k -> PairsAt h a vs ks -> PairsAt h a (v :: vs) (k :: ks)
theorem PairsAt.len {h : Heap} {a : Addr} {vs : List Value} {ks : List (Str × Str)} (p : PairsAt h a vs ks) : vs.length = ks.length := by
 induction p with
 | nil => rfl
 | cons _ _ ih => rw [List.length_cons,List.length_cons,ih]
theorem PairsAt.get {h : Heap} {a : Addr} {vs : List Value} {ks : List (Str × Str)} (p : PairsAt h a vs ks) : ∀ i,i < ks.length -> PairAt h a (vs.getD i Value.none) (ks.getD i (default,default)) := by
 induction p with
 | nil => intro i hi; cases hi
 | cons q _ ih =>
   intro i hi
   cases i with
   | zero => exact q
   | succ i => exact ih i (Nat.lt_of_succ_lt_succ hi)
theorem PairsAt.keep {h h' : Heap} {a : Addr} {vs : List Value} {ks : List (Str × Str)} (p : PairsAt h a vs ks) (k : ∀ b o,b ≠ a -> h.get? b = some o -> h'.get? b = some o) : PairsAt h' a vs ks := by
 induction p with
 | nil => exact .nil
 | cons q _ ih =>
   obtain ⟨b,o,m,t,u,e,n,g,r⟩ := q
   exact .cons ⟨b,o,m,t,u,e,n,k b o n g,r⟩ ih
section
variable {prog : Program} {w : World} {A : Around} {E : Value -> Shared -> Prop} {s : Shared}
theorem pair_lt {a : Addr} {v v' : Value} {k k' : Str × Str} {Q : Bool -> Shared -> Prop} (p : PairAt s.heap a v k) (p' : PairAt s.heap a v' k') (q : Q (plt k k') s) : wpAny (model prog w) A (keyLt' (tuples' true) v v') Q E s := by
 obtain ⟨b,o,m,t,u,rfl,_,g,c,d⟩ := p
 obtain ⟨b',o',m',t',u',rfl,_,g',c',d'⟩ := p'
 refine kat_lt g d g' d' ?_
 show KatLex prog w A true (decide (2 < 2)) Q [(.str k.1 t,.str k'.1 t'),(.str k.2 u,.str k'.2 u')] 0 s
 unfold plt at q
 refine kat_cons ((mixKind prog w).eqBool (mixKind_str _ _ _ _) (mixKind_str _ _ _ _) ?_)
 by_cases e : k.1 = k'.1
 . rw [if_pos e] at q
   rw [show decide ((Sum.inr k.1 : Key) = Sum.inr k'.1) = true from decide_eq_true (by rw [e])]
   refine kat_yes (kat_cons ((mixKind prog w).eqBool (mixKind_str _ _ _ _) (mixKind_str _ _ _ _) ?_))
   by_cases f : k.2 = k'.2
   . rw [if_pos f] at q
     rw [show decide ((Sum.inr k.2 : Key) = Sum.inr k'.2) = true from decide_eq_true (by rw [f])]
     exact kat_yes (kat_nil q)
   . rw [if_neg f] at q
     rw [show decide ((Sum.inr k.2 : Key) = Sum.inr k'.2) = false from decide_eq_false (fun z => f (Sum.inr.inj z))]
     refine kat_no ?_
     show wpAny _ A (oneLt' false _ _) Q _ s
     exact kat_one _ _ (PySem.P.lt_str q)
 . rw [if_neg e] at q
   rw [show decide ((Sum.inr k.1 : Key) = Sum.inr k'.1) = false from decide_eq_false (fun z => e (Sum.inr.inj z))]
   refine kat_no ?_
   show wpAny _ A (oneLt' true _ _) Q _ s
   exact oneLt_str q
theorem pair_tups {h : Heap} {a : Addr} {vs : List Value} {ks : List (Str × Str)} (p : PairsAt h a vs ks) : ∃ fs,KatTups h vs fs /\ fs.length = ks.length /\ ∀ v ∈ fs,∃ x t,v = Value.str x t := by
 induction p with
 | nil => exact ⟨[],.nil,rfl,fun v h => by cases h⟩
 | cons q _ ih =>
   obtain ⟨fs,h1,h2,h3⟩ := ih
   obtain ⟨b,o,m,t,u,rfl,_,g,c,d⟩ := q
   refine ⟨.str _ t :: fs,.cons g c d (by rfl) h1,by rw [List.length_cons,List.length_cons,h2],fun v hv => ?_⟩
   rcases List.mem_cons.mp hv with e | e
   . exact ⟨_,_,e⟩
   . exact h3 v e
theorem pair_sort {a : Addr} {vs : List Value} {ks : List (Str × Str)} {n : Nat} {P : Fin -> Shared -> Prop} (ho : s.heap.get? a = some (seqObj "list" vs.toArray n)) (hp : PairsAt s.heap a vs ks) (hn : ks.Nodup) (h6 : ks.length <= 6)
   (h : ∀ (l : List Nat),(∀ i ∈ l,i < ks.length) -> (l.map fun i => ks.getD i (default,default)).Perm ks -> (l.map fun i => ks.getD i (default,default)).Pairwise (fun x y => plt x y = true) -> P (.done (.ret .none)) { s with heap := sortedHeap s.heap a vs (l.map fun i => vs.getD i Value.none).toArray }) :
   wpAny (model prog w) A (Builtin.«list.sort» ⟨[.ref a],[]⟩) P E s := by
 have sl0 : sizeLine = 16777216 := sizeLine_eq
 have len := hp.len
 rw [list_sort_plain]
 have la : a < s.heap.objs.size := Heap.lt_size ho
 refine wpAny_bind (listItems_at ho rfl (wpAny_bind (listUpdate_at ho rfl ?_ (by rw [List.size_toArray]; omega) (Nat.zero_le _))))
 obtain ⟨e1,g1⟩ : ∃ e1,(s.heap.update a (Obj.mapSeq fun _ => #[])).get? a = some (seqObj "list" #[] e1) := ⟨_,get?_update_seq ho (fun _ => #[])⟩
 refine wpAny_bind (seqEpoch_at g1 rfl (wpAny_bind (wpAny_newTuple ?_ (by simp; omega))))
 refine wpAny_bind (wpAny_newList ?_ (Nat.zero_le _))
 refine wpAny_holding ?_
 have g6 : (((s.heap.update a (Obj.mapSeq fun _ => #[])).push (seqObj "tuple" vs.toArray 0)).push (seqObj "list" #[] 0)).get? a = some (seqObj "list" #[] e1) := Heap.get?_push_of_some _ (Heap.get?_push_of_some _ g1)
 have kk : ∀ b o,b ≠ a -> s.heap.get? b = some o -> (((s.heap.update a (Obj.mapSeq fun _ => #[])).push (seqObj "tuple" vs.toArray 0)).push (seqObj "list" #[] 0)).get? b = some o := fun b o nb e =>
   Heap.get?_push_of_some _ (Heap.get?_push_of_some _ (((Heap.SameBut.update s.heap a _).2 b nb).trans e))
 show wpAny (model prog w) A _ P E { s with heap := ((s.heap.update a (Obj.mapSeq fun _ => #[])).push (seqObj "tuple" vs.toArray 0)).push (seqObj "list" #[] 0) }
 dsimp only
 have sz : vs.toArray.size = vs.length := by simp
 by_cases c2 : vs.toArray.size < 2
 . rw [if_pos c2,if_pos c2]
   refine wpAny_bind (wpAny_pure ?_)
   rw [StateT.run_pure]
   refine wpAny_bind (wpAny_pure ?_)
   dsimp only
   refine wpAny_bind (seqEpoch_at g6 rfl ?_)
   have em : ((vs.toArray.zip vs.toArray).map (·.2)) = vs.toArray := by
     apply Array.toList_inj.mp
     rw [Array.toList_map,Array.toList_zip]
     exact List.map_snd_zip (Nat.le_refl _)
   refine wpAny_bind (listUpdate_at g6 rfl ?_ (Nat.zero_le _) (by show ((vs.toArray.zip vs.toArray).map (·.2)).size <= _; rw [em,sz]; omega))
   simp only [bne_self_eq_false,Bool.false_eq_true,if_false]
   refine wpAny_pure ?_
   show P _ { s with heap := sortedHeap s.heap a vs ((vs.toArray.zip vs.toArray).map (·.2)) }
   rw [em]
   have all : ∀ {α : Type} (xs : List α) (d : α),((List.range xs.length).map fun i => xs.getD i d) = xs := fun xs d => by
     apply List.ext_getElem
     . simp
     . intro i h1 h2
       simp [List.getD,h2]
   have fin := h (List.range ks.length) (fun i hi => List.mem_range.mp hi) (by rw [all]) (by
     rw [all]
     match ks,len with
     | [],_ => exact List.Pairwise.nil
     | [_],_ => exact List.pairwise_singleton _ _
     | _ :: _ :: _,len => rw [sz,len,List.length_cons,List.length_cons] at c2; omega)
   rw [<- len,all] at fin
   exact fin
 . rw [if_neg c2,if_neg c2]
   have p6 := hp.keep kk
   obtain ⟨fs,t1,t2,t3⟩ := pair_tups p6
   obtain ⟨p,r1,r2,r3,r4⟩ := sort_few plt_strict hn (by omega) h6 (default,default)
   refine wpAny_bind (kat_kind (T := .type "str") t1 (by omega) (fun v hv => ?_) rfl ?_)
   . obtain ⟨x,t,rfl⟩ := t3 v hv
     exact .now
   . refine wpAny_bind (wpAny_mono (kat_run (ks := vs) (vs := vs) (κ := tuples' true) (Q := fun st' s' => s' = { s with heap := ((s.heap.update a (Obj.mapSeq fun _ => #[])).push (seqObj "tuple" vs.toArray 0)).push (seqObj "list" #[] 0) } /\ arrOf st' = p.map (kas_item (vs.toArray.zip vs.toArray)) /\ failedOf st' = none /\ p.size = vs.length)
       (G := fun p' s' => p' = p /\ s' = { s with heap := ((s.heap.update a (Obj.mapSeq fun _ => #[])).push (seqObj "tuple" vs.toArray 0)).push (seqObj "list" #[] 0) }) rfl (by omega) (by omega) (fun p' st' s' q1 q2 q3 ⟨q4,q5⟩ => by subst q4; exact ⟨q5,q2,q3,q1⟩)
       (runOk_wp (n := ks.length) (lt := fun i j => plt (ks.getD i (default,default)) (ks.getD j (default,default))) (fun i j C hi hj hC => pair_lt (p6.get i hi) (p6.get j hj) hC) _ p _ (by rw [len]; exact r1) ⟨rfl,rfl⟩)) ?_ fun _ _ e => e)
     rintro ⟨⟨⟩,st'⟩ s' ⟨rfl,har,hf,hsz⟩
     dsimp only
     have em := kat_snds (vs := vs) rfl har
     refine wpAny_bind (seqEpoch_at g6 rfl ?_)
     have psz : p.toList.length = vs.length := by rw [Array.length_toList]; exact hsz
     refine wpAny_bind (listUpdate_at g6 rfl ?_ (Nat.zero_le _) (by rw [em,List.size_toArray,List.length_map,psz]; omega))
     rw [hf]
     simp only [bne_self_eq_false,Bool.false_eq_true,if_false]
     refine wpAny_pure ?_
     show P _ { s with heap := sortedHeap s.heap a vs ((arrOf st').map (·.2)) }
     rw [em]
     exact h p.toList r4 r2 r3
theorem sortedT_by {x : Value} {ks : List (Str × Str)} {T : List Value -> Prop} {Q : Value -> Shared -> Prop} (hn : ks.Nodup) (h6 : ks.length <= 6)
   (col : ∀ (R : List Value -> Shared -> Prop),(∀ (h' : Heap) (tk : Nat) (vs : List Value),(∀ b o,s.heap.get? b = some o -> h'.get? b = some o) -> PairsAt h' h'.objs.size vs ks -> T vs -> R vs { s with heap := h',toks := tk }) -> wpAny (model prog w) A.in1 (collect x) R E s)
   (h : ∀ (h1 h' : Heap) (tk : Nat) (vs : List Value) (l : List Nat) (n : Nat),(∀ b o,s.heap.get? b = some o -> h1.get? b = some o) -> (∀ b o,h1.get? b = some o -> h'.get? b = some o) -> T vs -> vs.length = ks.length -> h'.get? h1.objs.size = some (seqObj "list" (l.map fun i => vs.getD i Value.none).toArray n) ->
     (∀ i ∈ l,i < ks.length) -> (l.map fun i => ks.getD i (default,default)).Perm ks -> (l.map fun i => ks.getD i (default,default)).Pairwise (fun x y => plt x y = true) -> Q (.ref h1.objs.size) { s with heap := h',toks := tk }) :
   wpAny (model prog w) A (call (.builtin "sorted") [x]) Q E s := by
 refine (Calls.call_function_entry kind_sorted plain_sorted entry_sorted (args_sorted1 _) ?_)
 unfold Builtin.«sorted»
 refine (wpAny_bind (m := checkCount "sorted" 1 1 _) (wpAny_pure ?_))
 refine wpAny_bind (col _ fun h' tk vs kk hS hT => ?_)
 have hl := hS.len
 have sl0 : sizeLine = 16777216 := sizeLine_eq
 refine wpAny_bind (wpAny_newList ?_ (by omega))
 have g0 : (h'.push (seqObj "list" vs.toArray 0)).get? h'.objs.size = some (seqObj "list" vs.toArray 0) := Heap.get?_push_size _ rfl
 refine wpAny_bind (wpAny_holding (wpAny_call_entry slot_list_sort (s := { s with heap := h'.push (seqObj "list" vs.toArray 0),toks := tk }) ⟨_,g0,rfl⟩ entry_list_sort
   (pair_sort (s := { s with heap := h'.push (seqObj "list" vs.toArray 0),toks := tk }) g0 (hS.keep fun b o _ e => Heap.get?_push_of_some _ e) hn h6 fun l l1 l2 l3 => ⟨_,rfl,?_⟩) (args_list_sort _)))
 obtain ⟨n,gn⟩ := sortedHeap_at (vs := vs) (out := (l.map fun i => vs.getD i Value.none).toArray) g0
 refine wpAny_pure ⟨_,rfl,h h' _ tk vs l n kk (fun b o e1 => ?_) hT hl gn l1 l2 l3⟩
 have lt : b < h'.objs.size := Heap.lt_size e1
 show (sortedHeap (h'.push (seqObj "list" vs.toArray 0)) h'.objs.size vs _).get? b = some o
 rw [sortedHeap_old (Nat.ne_of_lt lt) (by rw [Heap.size_push]; exact Nat.lt_succ_of_lt lt)]
 exact Heap.get?_push_of_some _ e1
end
def kP (k : Str × Str) : List Key := [Sum.inr k.1,Sum.inr k.2]
theorem kP_inj {a b : Str × Str} (h : kP a = kP b) : a = b := by
 unfold kP at h
 injection h with h1 h2
 injection h2 with h2 _
 exact Prod.ext (Sum.inr.inj h1) (Sum.inr.inj h2)
section
variable {X : Cx}
theorem paired_get {α β : Type} {F : α -> β -> Prop} : ∀ {l₁ : List α} {l₂ : List β},Paired F l₁ l₂ -> ∀ {i : Nat} {b : β},l₂[i]? = some b -> ∃ a,l₁[i]? = some a /\ F a b
 | _,_,.nil,i,b,e => by simp at e
 | _,_,.cons h r,i,b,e => by
   cases i with
   | zero => cases (show some _ = some b from e); exact ⟨_,rfl,h⟩
   | succ i => exact paired_get r (by simpa using e)
theorem paired_keys {H : Hp} : ∀ {kvs : List (List Key × V)} {xs : List (List Key × Addr × Value)},Paired (fun (p : List Key × V) (q : List Key × Addr × Value) => p.1 = q.1 /\ H q.2.1 = some (.tup (p.1.map kV)) /\ RelV p.2 q.2.2) kvs xs -> kvs.map (·.1) = xs.map (·.1)
 | _,_,.nil => rfl
 | _,_,.cons h r => by rw [List.map_cons,List.map_cons,h.1,paired_keys r]
theorem pairs_of {h : Heap} {a : Addr} : ∀ {vs : List Value} {ks : List (Str × Str)},vs.length = ks.length -> (∀ i,i < ks.length -> PairAt h a (vs.getD i Value.none) (ks.getD i (default,default))) -> PairsAt h a vs ks
 | [],[],_,_ => .nil
 | v :: vs,k :: ks,hl,f => .cons (f 0 (Nat.succ_pos _)) (pairs_of (by simpa using hl) fun i hi => f (i + 1) (Nat.succ_lt_succ hi))
 | [],_ :: _,hl,_ => by simp at hl
 | _ :: _,[],hl,_ => by simp at hl
theorem call_sortedT (hc : X.calm = true) : CallR X (.builtin "sorted") (fun xs H Q => ∃ (p : Addr) (kvs : List (List Key × V)) (ks : List (Str × Str)),xs = [.ref p] /\ H p = some (.dT kvs) /\ kvs.map (·.1) = ks.map kP /\ ks.length <= 6 /\
   ∀ (l : Addr) (as : List Addr) (ks' : List (Str × Str)),H l = none -> ks'.Perm ks -> ks'.Pairwise (fun x y => plt x y = true) -> as.length = ks'.length -> (∀ (i : Nat) (a : Addr) (k : Str × Str),as[i]? = some a -> ks'[i]? = some k -> H a = some (.tup ((kP k).map kV))) -> Q (.ref l) (upd H l (.lst (as.map V.ref)))) := by
 intro pins s σ H xs us Q I r h
 obtain ⟨p,kvs,ks,rfl,hp,hk,h6,q⟩ := h
 obtain ⟨u,rfl,ru⟩ := vals1 r
 cases ru
 obtain ⟨z,d,xs,rel,o,es,ep,g1,g2,g3,g4,g5⟩ := (show ObjOk X.prog X.w H s.heap p (.dT kvs) from I.hok p _ hp)
 have hkx : xs.map (·.1) = ks.map kP := by
   rw [<- hk]
   exact (paired_keys rel).symm
 have hn : ks.Nodup := by
   rw [hkx] at g5
   rw [List.nodup_iff_pairwise_ne] at g5 ⊢
   rw [List.pairwise_map] at g5
   exact g5.imp fun {a b} h e => h (by rw [e])
 have hxl : xs.length = ks.length := by have := congrArg List.length hkx; simpa using this
 have hesl : es.size = ks.length := by rw [<- Array.length_toList,g4,List.length_map,hxl]
 have sl0 : sizeLine = 16777216 := sizeLine_eq
 have fact : ∀ i,i < ks.length -> (es[i]?).map (·.key) = some (Value.ref (xs.map (·.2.1))[i]!) /\ H (xs.map (·.2.1))[i]! = some (.tup ((kP (ks.getD i (default,default))).map kV)) := fun i hi => by
   have ex : xs[i]? = some xs[i] := List.getElem?_eq_getElem (by omega)
   obtain ⟨kv,ekv,e1,e2,_⟩ := paired_get rel ex
   have ea : (xs.map (·.2.1))[i]! = xs[i].2.1 := by
     rw [List.getElem!_eq_getElem?_getD,List.getElem?_map,ex]; rfl
   rw [ea]
   refine ⟨?_,?_⟩
   . rw [<- Array.getElem?_toList,g4,List.getElem?_map,ex]; rfl
   . rw [e1] at e2
     have e3 : (xs.map (·.1))[i]? = some xs[i].1 := by rw [List.getElem?_map,ex]; rfl
     rw [hkx,List.getElem?_map,List.getElem?_eq_getElem hi] at e3
     have e4 : kP ks[i] = xs[i].1 := Option.some.inj e3
     have e5 : ks.getD i (default,default) = ks[i] := by simp [List.getD,hi]
     rw [e5,e4]; exact e2
 refine sortedT_by (T := fun vs => ∀ i,i < ks.length -> vs.getD i Value.none = .ref (xs.map (·.2.1))[i]!) hn h6 (fun R hR => PySem.W.kdu_collect (A := X.A.in1) (rawSrc (es := es) (ep := ep) d) (by simpa using I.ok.hd hc) ⟨o,g1,g2,g3⟩ (by omega) fun h' tk acc kk hacc => ?_) fun h1 h' tk vs l n k1 k2 hT hvl ho l1 l2 l3 => ?_
 . have al : acc.toList.length = ks.length := by rw [Array.length_toList]; exact hacc.1.trans hesl
   have at' : ∀ i,i < ks.length -> acc.toList.getD i Value.none = .ref (xs.map (·.2.1))[i]! := fun i hi => by
     have e1 : acc.toList[i]? = some acc.toList[i] := List.getElem?_eq_getElem (by omega)
     obtain ⟨e,ee,ev⟩ := hacc.2 i acc.toList[i] (by rw [<- Array.getElem?_toList]; exact e1)
     have f := (fact i hi).1
     rw [ee] at f
     have f' : e.key = Value.ref (xs.map (·.2.1))[i]! := Option.some.inj f
     simp only [List.getD,e1,Option.getD_some]
     rw [ev,f']
   refine hR h' tk acc.toList kk (pairs_of al fun i hi => ?_) at'
   rw [at' i hi]
   obtain ⟨_,its,rv,ob,e1,e2,m,e3⟩ := (show ObjOk X.prog X.w H s.heap _ (.tup ((kP (ks.getD i (default,default))).map kV)) from I.hok _ _ (fact i hi).2)
   have g := kk _ _ e1
   obtain ⟨v1,v2,rfl,r1,r2⟩ := vals2 (show Vals [V.str _,V.str _] its from rv)
   obtain ⟨t1,rfl⟩ := r1
   obtain ⟨t2,rfl⟩ := r2
   exact ⟨_,ob,m,t1,t2,rfl,Nat.ne_of_lt (Heap.lt_size g),g,e2,e3⟩
 . have I1 : Inv X pins σ H { s with heap := h1,toks := tk } := I.kept k1
   have ll : l.length = ks.length := by have := l2.length_eq; simpa using this
   have eo : (l.map fun i => vs.getD i Value.none) = (l.map fun i => (xs.map (·.2.1))[i]!).map Value.ref := by
     rw [List.map_map]
     exact List.map_congr_left fun i hi => hT i (l1 i hi)
   refine ⟨.ref h1.objs.size,_,I1.laid (t' := tk) (o := .lst ((l.map fun i => (xs.map (·.2.1))[i]!).map V.ref)) k2 (Nat.le_refl _) ⟨by rw [List.length_map,List.length_map]; omega,(l.map fun i => (xs.map (·.2.1))[i]!).map Value.ref,n,?_,by rw [<- eo]; exact ho⟩,rfl,
     q _ _ _ (I1.hok.fresh (Nat.le_refl _)) l2 l3 (by simp) fun j a k ea ek => ?_⟩
   . generalize (l.map fun i => (xs.map (·.2.1))[i]!) = ys
     induction ys with
     | nil => exact .nil
     | cons y ys ih => exact .cons rfl ih
   . rw [List.getElem?_map] at ea ek
     cases ej : l[j]? with
     | none => rw [ej] at ea; cases ea
     | some i =>
       rw [ej] at ea ek
       cases (show some _ = some a from ea)
       cases (show some _ = some k from ek)
       exact (fact i (l1 i (List.mem_of_getElem? ej))).2
end
end L2
namespace L2
open PySem PySem.Spec PyProof.Rows
section
open PySem.SeqAt
open PySem.AutoSeq1 (wpAny_loadPart')
open PySem.MeetsSeq PySem.MeetsSeq2 PySem.MeetsSeq3
end
end L2
namespace L2
open PySem PySem.Spec PyProof.Rows
def Tups (H H' : Hp) : Prop := ∀ b xs,H b = some (.tup xs) -> H' b = some (.tup xs)
theorem Tups.refl (H : Hp) : Tups H H := fun _ _ h => h
theorem Tups.trans {H H1 H2 : Hp} (a : Tups H H1) (b : Tups H1 H2) : Tups H H2 := fun c o h => b c o (a c o h)
theorem Same.tups {H H' : Hp} (s : Same H H') : Tups H H' := fun b _ e => s b _ e
theorem Tups.new {H H1 : Hp} {p : Addr} {o : HO} (s : Tups H H1) (h : H1 p = none) : Tups H (upd H1 p o) := fun b u e => by rw [upd_ne (ne_of_none (s b u e) h)]; exact s b u e
theorem Tups.put {H H1 : Hp} {p : Addr} {o u : HO} (s : Tups H H1) (h : H1 p = some u) (nt : ∀ xs,u ≠ .tup xs) : Tups H (upd H1 p o) := fun b xs e => by
 have e1 := s b xs e
 have ne : b ≠ p := fun z => by subst z; rw [h] at e1; exact nt xs (Option.some.inj e1)
 rw [upd_ne ne]; exact e1
theorem Grow.more {H1 H H' : Hp} {D : Addr} {ys : List V} (G : Grow H1 H D ys) (s : Same H H') : Grow H1 H' D ys := ⟨s _ _ G.at',G.same.trans s⟩
theorem paired_getL {α β : Type} {F : α -> β -> Prop} : ∀ {l₁ : List α} {l₂ : List β},Paired F l₁ l₂ -> ∀ {i : Nat} {a : α},l₁[i]? = some a -> ∃ b,l₂[i]? = some b /\ F a b
 | _,_,.nil,i,b,e => by simp at e
 | _,_,.cons h r,i,b,e => by
   cases i with
   | zero => cases (show some _ = some b from e); exact ⟨_,rfl,h⟩
   | succ i => exact paired_getL r (by simpa using e)
theorem paired_mono {α β : Type} {F G : α -> β -> Prop} (f : ∀ a b,F a b -> G a b) : ∀ {l₁ : List α} {l₂ : List β},Paired F l₁ l₂ -> Paired G l₁ l₂
 | _,_,.nil => .nil
 | _,_,.cons h r => .cons (f _ _ h) (paired_mono f r)
theorem paired_app {α β : Type} {F : α -> β -> Prop} : ∀ {l₁ m₁ : List α} {l₂ m₂ : List β},Paired F l₁ l₂ -> Paired F m₁ m₂ -> Paired F (l₁ ++ m₁) (l₂ ++ m₂)
 | _,_,_,_,.nil,q => q
 | _,_,_,_,.cons h r,q => .cons h (paired_app r q)
section
variable {g : BI -> TG} {te : BI -> TE} {σ0 : St} {D : Addr} {End : Hp -> Prop} {H1 : Hp}
theorem comp_map {K : PySem.W.Frag} {a : Addr} {xs : List V} {ys : List V} (hD : H1 D = none) (hT : SqT K H1 a xs) (hz : xs.length <= sizeLine) (hl : ys.length = xs.length)
   (turn : ∀ (i : Nat) (x : V) (H' : Hp),xs[i]? = some x -> Same H1 H' -> ∀ b (R : VK),(∀ H'' y,ys[i]? = some y -> Same H' H'' -> R y H'') -> g b x σ0 H' fun σ2 H2 => te b σ2 H2 R)
   (fin : ∀ H',Same H1 H' -> H' D = some (.lst ys) -> End H') :
   ∃ W : Nat -> Nat -> Hp -> Prop,(∃ m,W 0 m (upd H1 D (.lst []))) /\ ∀ b,CTurn (Itt K a) (g b) (tYes) (aPut D (te b)) σ0 End W :=
 comp_tup (xs := xs) (fun i H' => Grow H1 H' D (ys.take i)) (Grow.start hD) (fun i H' _ G => G.same.tup hT) (fun H' G => fin H' G.same (by have e := G.at'; rw [<- hl,List.take_length] at e; exact e)) (fun i x H' hx hi G b =>
   turn i x H' hx G.same b _ fun H'' y hy s => ⟨_,(G.more s).at',by rw [List.length_take]; omega,nx hi (by
     show Grow H1 _ D (ys.take (i + 1))
     rw [List.take_add_one,hy]
     exact (G.more s).put hD _)⟩)
end
def NxS (n i : Nat) (Pv : Nat -> St -> Hp -> Prop) (σ : St) (H : Hp) : Prop := ∃ m',m' < n - i /\ (m' = n - (i + 1) /\ i + 1 <= n /\ Pv (i + 1) σ H)
theorem nxs {n i : Nat} {Pv : Nat -> St -> Hp -> Prop} {σ : St} {H : Hp} (hi : i < n) (h : Pv (i + 1) σ H) : NxS n i Pv σ H := ⟨n - (i + 1),by omega,rfl,hi,h⟩
def WS (n : Nat) (Pv : Nat -> St -> Hp -> Prop) : Nat -> Nat -> St -> Hp -> Prop := fun i m σ H => m = n - i /\ i <= n /\ Pv i σ H
section
variable {g : TG} {act : TAct} {End : St -> Hp -> Prop}
theorem ct_by {J : It} (n : Nat) (Pv : Nat -> St -> Hp -> Prop) (stop : ∀ σ H,Pv n σ H -> J.stop n H /\ End σ H)
   (turn : ∀ i σ H,i < n -> Pv i σ H -> J.go i H /\ ∀ x H',J.yld i H x H' -> g x σ H' fun σ2 H2 => act σ2 H2 (NxS n i Pv)) : CT J g tYes act End (WS n Pv) := by
 intro i m σ H ⟨hm,hi,p⟩
 subst hm
 by_cases hlt : i < n
 . exact .inr ⟨(turn i σ H hlt p).1,fun x H' y => (turn i σ H hlt p).2 x H' y⟩
 . have e : i = n := by omega
   subst e
   exact .inl (stop σ H p)
theorem ct_tup {K : PySem.W.Frag} {a : Addr} {xs : List V} (Pv : Nat -> St -> Hp -> Prop) (hl : ∀ i σ H,i <= xs.length -> Pv i σ H -> SqT K H a xs) (stop : ∀ σ H,Pv xs.length σ H -> End σ H)
   (turn : ∀ i x σ H,xs[i]? = some x -> i < xs.length -> Pv i σ H -> g x σ H fun σ2 H2 => act σ2 H2 (NxS xs.length i Pv)) : CT (Itt K a) g tYes act End (WS xs.length Pv) :=
 ct_by xs.length Pv (fun σ H p => ⟨⟨xs,hl _ σ H (Nat.le_refl _) p,Nat.le_refl _⟩,stop σ H p⟩) fun i σ H hi p =>
   ⟨⟨xs,xs[i],hl i σ H (Nat.le_of_lt hi) p,by simp [hi]⟩,fun x H' ⟨e,y⟩ => by subst e; exact turn i x σ _ (y xs (hl i σ _ (Nat.le_of_lt hi) p)) hi p⟩
theorem ct_list {K : PySem.W.Frag} {a : Addr} {xs : List V} (Pv : Nat -> St -> Hp -> Prop) (hl : ∀ i σ H,i <= xs.length -> Pv i σ H -> SqL K H a xs) (stop : ∀ σ H,Pv xs.length σ H -> End σ H)
   (turn : ∀ i x σ H,xs[i]? = some x -> i < xs.length -> Pv i σ H -> g x σ H fun σ2 H2 => act σ2 H2 (NxS xs.length i Pv)) : CT (Itl K a) g tYes act End (WS xs.length Pv) :=
 ct_by xs.length Pv (fun σ H p => ⟨⟨xs,hl _ σ H (Nat.le_refl _) p,Nat.le_refl _⟩,stop σ H p⟩) fun i σ H hi p =>
   ⟨⟨xs,xs[i],hl i σ H (Nat.le_of_lt hi) p,by simp [hi]⟩,fun x H' ⟨e,y⟩ => by subst e; exact turn i x σ _ (y xs (hl i σ _ (Nat.le_of_lt hi) p)) hi p⟩
theorem ws0 {n : Nat} {Pv : Nat -> St -> Hp -> Prop} {σ : St} {H : Hp} (h : Pv 0 σ H) : ∃ m,WS n Pv 0 m σ H := ⟨n,rfl,Nat.zero_le _,h⟩
end
end L2
namespace HT
open PySem PySem.Spec PyProof.Rows
section
variable {prog : Program} {w : World} {A : Around} {E : Value -> Shared -> Prop} {s : Shared}
theorem cat_tup0 {t b : Addr} {ws : List Value} {Q : Value -> Shared -> Prop} (ht : IsTup s.heap t (#[] : Array Value)) (hb : IsTup s.heap b ws.toArray)
   (h1 : Q (.ref b) s) : wpAny (model prog w) A (binaryOp .Add (.ref t) (.ref b)) Q E s := by
 obtain ⟨⟨cls,dd,data,sl⟩,ho,hc,n,hd⟩ := id ht
 obtain ⟨⟨cls2,dd2,data2,sl2⟩,ho2,hc2,n2,hd2⟩ := id hb
 simp only at hc hd hc2 hd2
 subst hc hd hc2 hd2
 exact concat_meets ⟨_,ho,rfl⟩ ⟨_,ho2,rfl⟩ noFill_tuple_add seq_tuple_add PySem.F.slot_tuple_add PySem.F.entry_tuple_add (PySem.F.args_tuple_add_2 _ _)
     (tuple_addW0 t b #[] ws.toArray n n2 dd dd2 sl sl2 (by simp)) ⟨ho,ho2,h1⟩
theorem getItem_tuple_whole {t sl : Addr} {items : Array Value} {vl vu : Value} {lo hi : Option Int} {Q : Value -> Shared -> Prop} (ht : IsTup s.heap t items) (hs : s.heap.IsSliceOf sl vl vu .none) (pl : IsPart vl lo) (pu : IsPart vu hi)
   (hw : sIx items.size 0 lo = 0 /\ sIx items.size items.size hi = items.size)
   (h : Q (.ref t) s) : wpAny (model prog w) A (getItem (.ref t) (.ref sl)) Q E s := by
 obtain ⟨os,hos,hcs,hds⟩ := id hs
 have hTs : s.TypeIs (.ref sl) "slice" := ⟨os,hos,hcs⟩
 unfold getItem
 try with_reducible refine wpAny_holding ?_
 first | refine wpAny_bind (wpAny_pure ?_) | skip
 refine wpAny_bind (wpAny_sequenceKey ht.typeIs (by decide) ?_)
 refine wpAny_bind (wpAny_callSpecial?_slot (name := Str.ofString "__getitem__") ht.typeIs PyProof.Rows.slot_tuple_getitem
   (wpAny_call_entry PyProof.Rows.slot_tuple_getitem ht.typeIs entry_tuple_getitem ?_ (args_tuple_getitem _ _)))
 show wpAny _ _ (Builtin.Tuple.tupleItemsOf (.ref t) >>= _) _ _ s
 refine wpAny_bind (tupleItemsOf_ ht ?_)
 refine wpAny_bind (wpAny_typeOf hTs ?_)
 rw [if_pos (by decide)]
 refine wpAny_bind (sliceApplied_gen hs pl pu ?_)
 have hyes : ((((sIx items.size 0 lo : Nat) : Int) == 0 && (1 : Int) == 1 && (sIx items.size items.size hi - sIx items.size 0 lo) == items.size) = true) := by
   rw [hw.1,hw.2]; simp
 show wpAny _ _ (if (((sIx items.size 0 lo : Nat) : Int) == 0 && (1 : Int) == 1 && (sIx items.size items.size hi - sIx items.size 0 lo) == items.size) = true then _ else _) _ _ s
 rw [if_pos hyes]
 unfold Builtin.Tuple.tupleIsExact
 refine wpAny_bind ?_
 refine wpAny_bind (wpAny_typeOf ht.typeIs ?_)
 refine wpAny_pure ?_
 rw [if_pos (by decide)]
 refine wpAny_bind (wpAny_rule ?_)
 exact wpAny_pure ⟨_,rfl,wpAny_pure h⟩
end
end HT
namespace L2
open PySem PySem.Spec PyProof.Rows
section
variable {X : Cx}
structure CatA (x y : V) (H : Hp) (Q : VK) : Prop where
 h : ∃ a b xs ys,x = .ref a /\ y = .ref b /\ H a = some (.tup xs) /\ H b = some (.tup ys) /\ xs.length + ys.length <= sizeLine /\ ∀ p H',H' p = some (.tup (xs ++ ys)) -> Same H H' -> Q (.ref p) H'
theorem oCatA : OpR X (binaryOp .Add) CatA := by
 intro pins s σ H x y v u Q I rx ry ⟨h⟩
 obtain ⟨a,b,xs,ys,rfl,rfl,ha,hb,hz,q⟩ := h
 by_cases hx : xs = []
 . subst hx
   cases rx
   cases ry
   obtain ⟨its,r1,p1,_⟩ := I.tuple (SqT.of ha)
   obtain ⟨its2,r2,p2,_⟩ := I.tuple (SqT.of hb)
   have e : its = [] := r1.nil_iff.mpr rfl
   subst e
   exact HT.cat_tup0 p1 p2 ⟨.ref b,H,I,rfl,q b H hb (Same.refl H)⟩
 . refine op_catT pins s σ H _ _ v u Q I rx ry ⟨a,b,xs,ys,rfl,rfl,SqT.of ha,SqT.of hb,hx,hz,fun e => ?_,fun _ p hp => q p _ upd_same ((Same.refl H).upd hp)⟩
   subst e
   exact q a H (by rw [List.append_nil]; exact ha) (Same.refl H)
structure SlA (x : V) (lo hi : Option Int) (H : Hp) (Q : VK) : Prop where
 h : ∃ a xs,x = .ref a /\ H a = some (.tup xs) /\ ∀ p H',H' p = some (.tup (cutV xs lo hi)) -> Same H H' -> Q (.ref p) H'
theorem iSlA : SlR X SlA := by
 intro pins s σ H x v vl vu lo hi sl Q I rx hs pl pu ⟨h⟩
 obtain ⟨a,xs,rfl,ha,q⟩ := h
 by_cases hw : HT.sIx xs.length 0 lo = 0 /\ HT.sIx xs.length xs.length hi = xs.length
 . cases rx
   obtain ⟨its,r,ht,hz⟩ := I.tuple (SqT.of ha)
   have hlen : its.toArray.size = xs.length := by rw [List.size_toArray]; exact r.length.symm
   refine ⟨"tuple",_,PyProof.Rows.slot_tuple_getitem.lookup,ht.typeIs,?_⟩
   refine HT.getItem_tuple_whole ht hs pl pu (by rw [hlen]; exact hw) ⟨.ref a,H,I,rfl,q a H ?_ (Same.refl H)⟩
   rw [ha]
   unfold cutV
   rw [hw.1,hw.2,List.drop_zero,Nat.sub_zero,List.take_length]
 . exact sl_tup pins s σ H _ v vl vu lo hi sl Q I rx hs pl pu ⟨a,xs,rfl,SqT.of ha,hw,fun p hp => q p _ upd_same ((Same.refl H).upd hp)⟩
end
end L2
namespace HT
open PySem PySem.Spec PyProof.Rows
section
variable {prog : Program} {w : World} {A : Around} {E : Value -> Shared -> Prop} {s : Shared}
end
end HT
namespace L2
open PySem PySem.Spec PyProof.Rows
section
variable {X : Cx}
end
end L2
namespace HT
open PySem PySem.Spec PyProof.Rows
theorem tuple_ne_nil (l b : Addr) (items : Array Value) (n n2 : Nat) (dd dd2 : Option Addr) (sl sl2 : Array (Option Value)) :
   Meets (Builtin.«tuple.__ne__» ⟨[.ref l,.ref b],[]⟩) (fun _ R s => s.heap.get? l = some { cls := .type "tuple",dict := dd,data := .seq items n,slots := sl } /\ s.heap.get? b = some { cls := .type "tuple",dict := dd2,data := .seq #[] n2,slots := sl2 } /\ R (.ok (.ret (Value.bool (!items.isEmpty)))) s) :=
 .of_wp fun prog w A R s h => by
   obtain ⟨hp,g,d,tk,os⟩ := s; obtain ⟨hl,hb,h⟩ := h; have f2 := AutoSeq1.sub_tuple_tuple
   obtain ⟨items⟩ := items
   cases items with
   | nil =>
     wp_walk using wpAny_loadPart' hl,wpAny_loadPart' hb
     exact ⟨_,rfl,h⟩
   | cons x xs =>
     wp_walk using wpAny_loadPart' hl,wpAny_loadPart' hb
     exact ⟨_,rfl,h⟩
section
variable {prog : Program} {w : World} {A : Around} {E : Value -> Shared -> Prop} {s : Shared}
theorem ne_tup_nil {t b : Addr} {items : Array Value} {Q : Value -> Shared -> Prop} (ht : IsTup s.heap t items) (hb : IsTup s.heap b (#[] : Array Value)) (hu : A.units < cLine)
   (h : Q (.bool (!items.isEmpty)) s) : wpAny (model prog w) A (compareOp .NotEq (.ref t) (.ref b)) Q E s := by
 obtain ⟨⟨cls,dd,data,sl⟩,ho,hc,n,hd⟩ := id ht
 obtain ⟨⟨cls2,dd2,data2,sl2⟩,ho2,hc2,n2,hd2⟩ := id hb
 simp only at hc hd hc2 hd2
 subst hc hd hc2 hd2
 exact richCompare_meets_room (op := .NotEq) ⟨_,ho,rfl⟩ ⟨_,ho2,rfl⟩ PySem.F.slot_tuple_ne PySem.F.entry_tuple_ne (PySem.F.args_tuple_ne_2 _ _) (tuple_ne_nil t b items n n2 dd dd2 sl sl2)
   ⟨ho,ho2,show Value.bool (!items.isEmpty) ≠ Value.notImplemented /\ Q (.bool (!items.isEmpty)) s from ⟨(fun x => nomatch x),h⟩⟩ hu
end
end HT
namespace L2
open PySem PySem.Spec PyProof.Rows
section
variable {X : Cx}
structure NeT (x y : V) (H : Hp) (Q : VK) : Prop where
 h : ∃ a b xs,x = .ref a /\ y = .ref b /\ H a = some (.tup xs) /\ H b = some (.tup []) /\ Q (.bl (!xs.isEmpty)) H
theorem oNeT (hu : X.A.units < cLine) : OpR X (compareOp .NotEq) NeT := by
 intro pins s σ H x y v u Q I rx ry ⟨h⟩
 obtain ⟨a,b,xs,rfl,rfl,ha,hb,q⟩ := h
 cases rx
 cases ry
 obtain ⟨its,r1,p1,_⟩ := I.tuple (SqT.of ha)
 obtain ⟨its2,r2,p2,_⟩ := I.tuple (SqT.of hb)
 have e : its2 = [] := r2.nil_iff.mpr rfl
 subst e
 refine HT.ne_tup_nil p1 p2 hu ⟨.bl (!xs.isEmpty),H,I,?_,q⟩
 have e2 : its.toArray.isEmpty = xs.isEmpty := by
   have := r1.nil_iff
   cases xs <;> cases its <;> simp_all
 rw [e2]
 rfl
end
end L2
namespace L2
open PySem PySem.Spec PyProof.Rows
structure SE (X : Cx) (e : Expr) (t : TE) : Prop where
 h : PE X e t
structure SA (X : Cx) (es : List Expr) (t : TA) : Prop where
 h : PA X es t
structure SS (X : Cx) (s : Stmt) (t : TS) : Prop where
 h : PS X s t
structure SSs (X : Cx) (s : List Stmt) (t : TS) : Prop where
 h : PSs X s t
structure SI (X : Cx) (tg it : Expr) (t : TI) : Prop where
 h : PI X tg it t
structure ST (X : Cx) (e : Expr) (t : TT) : Prop where
 h : PT X e t
structure SW (X : Cx) (e : Expr) (t : TT) : Prop where
 h : PW X e t
structure SG (X : Cx) (e : Expr) (t : TG) : Prop where
 h : PG X e t
structure SGs (X : Cx) (e : List Expr) (t : TGs) : Prop where
 h : PGs X e t
structure SO (X : Cx) (e : Option Expr) (t : TO) : Prop where
 h : PO X e t
structure SIf (X : Cx) (e : List Expr) (t : TT) : Prop where
 h : PIf X e t
structure SC (X : Cx) (op : CmpOp) (a b : Expr) (t : TE) : Prop where
 h : PC X op a b t
structure RO (X : Cx) (f : Value -> Value -> Sem Value) (r : R2) : Prop where
 h : OpR X f r
structure RU (X : Cx) (f : Value -> Sem Value) (r : V -> Hp -> VK -> Prop) : Prop where
 h : UnR X f r
structure RC (X : Cx) (f : Value) (r : List V -> Hp -> VK -> Prop) : Prop where
 h : CallR X f r
structure RX (X : Cx) (r : R2) : Prop where
 h : IxR X r
structure RL (X : Cx) (r : V -> Option Int -> Option Int -> Hp -> VK -> Prop) : Prop where
 h : SlR X r
section
variable {X : Cx} {e a b c o tg elt iter : Expr} {es rest' : List Expr} {te ta tb to : TE} {t : TA} {pos p p2 pos' apos cpos spos : Pos} {st : Stmt} {rest : List Stmt} {ts u : TS} {tA tB' : TT} {lo hi : Option Expr} {tl th : TO} {x : Str} {id T : String} {name : Str}
 {scope scX : Scope} {own cap : List Str} {ix : List Nat} {wi : TI} {g : BI -> TG} {tt : BI -> TT} {tf : BI -> TE} {ifs : List Expr} {i : Nat}
theorem qa_nil : SA X [] tNil := ⟨pa_nil⟩
theorem qa_cons (ha : SE X e te) (hr : SA X es t) (hs : starEach (e :: es) X.env = (false,eval e X.env) :: starEach es X.env := by rfl) : SA X (e :: es) (tCons te t) := ⟨pa_cons ha.h hr.h hs⟩
theorem qV (i : Nat) (hN : X.N[i]? = some x := by rfl) (hv : Vis X.env.scope x := by first | exact Or.inl rfl | exact Or.inr (Or.inl rfl) | exact Or.inr (Or.inr rfl)) (hd : (x == ("__debug__" : Str)) = false := by decide)
   (hcd : (x == ("__classdict__" : Str)) = false := by decide) : SE X (.Name x pos) (tV i) := ⟨pV i hN hv hd hcd⟩
theorem qe_tup {x1} (h : SA X es t) : SE X (.Tuple es x1 pos) (tTup t) := ⟨pe_tup h.h⟩
theorem qe_lst (h : SA X es t) : SE X (.List es pos) (tLst t) := ⟨pe_lst h.h⟩
theorem qe_int {i j} : SE X (.Constant (.int i) j pos) (tC (.int i)) := ⟨pe_int⟩
theorem qe_op {op : Operator} {r : R2} (ho : RO X (binaryOp op) r) (ha : SE X a ta) (hb : SE X b tb) : SE X (.BinOp a op b pos) (tOp r ta tb) := ⟨pe_op ho.h ha.h hb.h⟩
theorem qe_un {op : UnaryOp} {r : V -> Hp -> VK -> Prop} (ho : RU X (unaryOp op) r) (ha : SE X a ta) : SE X (.UnaryOp op a pos) (tUn r ta) := ⟨pe_un ho.h ha.h⟩
theorem qe_ix {r : R2} (hr : RX X r) (ha : SE X a ta) (hb : SE X b tb) (hs : PlainIx b) : SE X (.Subscript a b pos) (tOp r ta tb) := ⟨pe_ix hr.h ha.h hb.h hs⟩
theorem qo_none : SO X none tNoPart := ⟨po_none⟩
theorem qoI (h : SE X e te) : SO X (some e) (tPartF te) := ⟨poI h.h⟩
theorem qe_slice {r : V -> Option Int -> Option Int -> Hp -> VK -> Prop} (hr : RL X r) (he : SE X e te) (hl : SO X lo tl) (hu : SO X hi th) : SE X (.Subscript e (.Slice lo hi none p2) pos) (tSl r te tl th) := ⟨pe_slice hr.h he.h hl.h hu.h⟩
theorem qe_call {CX : CXT} {k : Nat} {f : Addr} {fd : FuncData} {ps : List Str} {sp : Sp} {ds : List Value} {dvs : List V} {E : XK} (F : FnOk X.prog X.w X.K X.mg X.base CX k f fd ps sp) (hr : Room k X.A) (hg : Gl X x) (hm : X.mg x = some (.ref f)) (hk : PySem.W.keepIn X.K (.ref f) = true) (hb : Binds X.K fd ps ds) (hd : Vals dvs ds) (hx : Passes CX X E)
   (ha : SA X (e :: es) t) (hdb : (x == ("__debug__" : Str)) = false := by decide) (he : starEach (e :: es) X.env = (false,eval e X.env) :: starEach es X.env := by rfl) (hpl : (backTo pos (starEach es X.env)).any (·.1) = false := by rfl) :
   SE X (.Call (.Name x p) (e :: es) [] pos) (tCall sp dvs E t) := ⟨pe_call F hr hg hm hk hb hd hx ha.h hdb he hpl⟩
theorem qe_callB {r : List V -> Hp -> VK -> Prop} (hc : RC X (.builtin id) r) (hg : Gl X x) (hm : X.mg x = none) (hv : bootBuiltins x = some (.builtin id)) (ha : SA X (e :: es) t) (hn : x ≠ "__name__" := by decide) (hdb : (x == ("__debug__" : Str)) = false := by decide)
   (he : starEach (e :: es) X.env = (false,eval e X.env) :: starEach es X.env := by rfl) (hpl : (backTo pos (starEach es X.env)).any (·.1) = false := by rfl) : SE X (.Call (.Name x p) (e :: es) [] pos) (tCB r t) := ⟨pe_callB hc.h hg hm hv ha.h hn hdb he hpl⟩
theorem qe_callTy {r : List V -> Hp -> VK -> Prop} (hc : RC X (.type T) r) (hg : Gl X x) (hm : X.mg x = none) (hv : bootBuiltins x = some (.type T)) (ha : SA X (e :: es) t) (hn : x ≠ "__name__" := by decide) (hdb : (x == ("__debug__" : Str)) = false := by decide)
   (he : starEach (e :: es) X.env = (false,eval e X.env) :: starEach es X.env := by rfl) (hpl : (backTo pos (starEach es X.env)).any (·.1) = false := by rfl) : SE X (.Call (.Name x p) (e :: es) [] pos) (tCB r t) := ⟨pe_callTy hc.h hg hm hv ha.h hn hdb he hpl⟩
theorem qe_comp (hc : X.calm = true) (hX : X.env.scope = scX) (S : BlkS scX scope X.N own cap ix) (hi : SI X tg iter wi) (hg : ∀ b,SG (blk X scope (own ++ cap) b) tg (g b)) (ht : ∀ b,SIf (blk X scope (own ++ cap) b) ifs (tt b))
   (he : ∀ b,SE (blk X scope (own ++ cap) b) elt (tf b)) (hs : ∀ x,foldedSetIterable iter X.env x = pure x := by intro _; rfl) :
   SE X (.ListComp elt [⟨tg,iter,ifs,0⟩] scope pos) (tComp own ix wi g tt tf) := ⟨pe_comp hc hX S hi.h (fun b => (hg b).h) (fun b => (ht b).h) (fun b => (he b).h) hs⟩
theorem qif_nil : SIf X [] tYes := ⟨pif_nil⟩
theorem qi_tup {l : Expr} {tl : TE} (hl : SE X l tl) : SI X tg l (iTup X.K tl) := ⟨pi_tup hl.h⟩
theorem qtC {op : CmpOp} {r : R2} (ho : RO X (compareOp op) r) (ha : SE X a ta) (hb : SE X b tb) (hm : behindInMarks op b = false) : ST X (.Compare a [op] [b] pos) (tF (tOp r ta tb)) := ⟨ptC ho.h ha.h hb.h hm⟩
theorem qt_cmp {op : CmpOp} {te : TE} (h : SC X op a b te) (h1 : behindInMarks op b = false := by first | exact nobehind _ (by decide) (by decide) | rfl) : ST X (.Compare a [op] [b] pos) (tB te) := ⟨pt_cmp h.h h1⟩
theorem qc_notN {j} (ha : SE X a ta) : SC X .IsNot a (.Constant .none j pos') (tNotN ta) := ⟨pc_notN ha.h⟩
theorem qw_and1 (ha : ST X a tA) : SW X (.BoolOp .And [a] pos) tA := ⟨pw_and1 ha.h⟩
theorem qtAnd (ha : ST X a tA) (hb : SW X (.BoolOp .And (b :: rest') pos) tB') : ST X (.BoolOp .And (a :: b :: rest') pos) (tAnd tA tB') := ⟨ptAnd ha.h hb.h⟩
theorem qg_name {i : Nat} (hN : X.N.Nodup) (hi : X.N[i]? = some x) (hx : Loc X.env.scope x) (hf : X.fn x = true ∨ X.env.scope.names.lookup x = some .local := by first | exact .inl rfl | exact .inr rfl | assumption) : SG X (.Name x pos) (gName i) := ⟨pg_name hN hi hx hf⟩
theorem qgs_nil : SGs X [] gNil := ⟨pgs_nil⟩
theorem qgs_cons {t : TG} {u : TGs} (h1 : SG X e t) (h2 : SGs X es u)
   (hs : (assignEach (e :: es) X.env).map (·.2) = assign e X.env :: (assignEach es X.env).map (·.2) := by rfl) : SGs X (e :: es) (gCons t u) := ⟨pgs_cons h1.h h2.h hs⟩
theorem qg_tup {k : Nat} {t : TGs} {n : Nat} (hc : X.calm = true) (h : SGs X es t)
   (hn : (assignEach es X.env).length = n := by rfl) (hst : (assignEach es X.env).findIdx? (·.1) = none := by rfl) : SG X (.Tuple es k pos) (gTup X.K n t) := ⟨pg_tup hc h.h hn hst⟩
theorem qss_nil : SSs X [] tNext := ⟨pss_nil⟩
theorem qss_cons {t : TS} (h1 : SS X st t) (h2 : SSs X rest u) : SSs X (st :: rest) (tSeq t u) := ⟨pss_cons h1.h h2.h⟩
theorem qss_one {t : TS} (h1 : SS X st t) : SSs X [st] t := ⟨pss_one h1.h⟩
theorem qs_set {i : Nat} (hN : X.N.Nodup) (hi : X.N[i]? = some x) (hx : Loc X.env.scope x) (he : SE X e te) (hs : swapsWith e (some (.Name x pos')) pos.line X.env = pure false := by rfl) (hf : X.fn x = true ∨ X.env.scope.names.lookup x = some .local := by first | exact .inl rfl | exact .inr rfl | assumption) :
   SS X (.Assign [.Name x pos'] e pos) (tAsg te (gName i)) := ⟨ps_set hN hi hx he.h hs hf⟩
theorem qs_asg {g : TG} (he : SE X e te) (hg : SG X tg g) (hs : swapsWithSole [tg] e pos.line X.env = pure false := by rfl) (hw : swappedStores [tg] e X.env = pure none := by rfl)
   (h1 : (assignEach [tg] X.env).map (·.2) = [assign tg X.env] := by rfl) : SS X (.Assign [tg] e pos) (tAsg te g) := ⟨ps_asg he.h hg.h hs hw h1⟩
theorem qs_ret (he : SE X e te) : SS X (.Return (some e) pos) (tRet te) := ⟨ps_ret he.h⟩
theorem qs_if {bs cs : List Stmt} {tc : TT} {t u : TS} (hc : ST X c tc) (ha : SSs X bs t) (hb : SSs X cs u) : SS X (.If c bs cs pos) (tIfS tc t u) := ⟨ps_if hc.h ha.h hb.h⟩
end
end L2
namespace L2
open PySem PySem.Spec PyProof.Rows
section
variable {X : Cx}
theorem range_any (bs : List Bool) : ((List.range bs.length).any fun i => (bs[i]?).getD false) = bs.any id := by
 have key : ∀ (l : List Bool) (k : Nat),((List.range l.length).any fun i => (l[i]?).getD false) = l.any id := fun l _ => by
   induction l with
   | nil => rfl
   | cons b l ih =>
     rw [List.length_cons,List.range_succ_eq_map,List.any_cons,List.any_map,List.any_cons]
     congr 1
 exact key bs 0
theorem call_any (hc : X.calm = true) : CallR X (.builtin "any") (fun xs H Q => ∃ (p : Addr) (bs : List Bool),xs = [.ref p] /\ SqL X.K H p (bs.map V.bl) /\ Q (.bl (bs.any id)) H) := by
 intro pins s σ H xs us Q I r h
 obtain ⟨p,bs,rfl,hq,q⟩ := h
 obtain ⟨u,rfl,ru⟩ := vals1 r
 cases ru
 obtain ⟨its,rv,pl,_⟩ := I.list hq
 have hb := bools_of rv
 have hl := pl.isList
 have hlt : p < s.heap.objs.size := by obtain ⟨_,e,_⟩ := hl; exact Heap.lt_size e
 refine call_any_walk (wpAny_pyIter_list hl ?_)
 refine ⟨s.heap.objs.size,[s.heap.objs.size,p],[s.heap.objs.size],its.toArray.size,_,_,fun i => (bs[i]?).getD false,rfl,Walks.list (A := X.A.in1) (I.ok.hd hc) _ p (Nat.ne_of_lt hlt) its.toArray,
   ⟨⟨_,Heap.get?_push_size _ rfl,rfl,rfl⟩,hl.push _⟩,fun i v s' Q' E' hP hQ => ?_,fun h' tk hk => ?_⟩
 . obtain ⟨b,e,rfl⟩ := hb.get i v (by simpa using hP)
   simp only [e,Option.getD_some] at hQ
   exact wpAny_truthy_bool hQ
 . have e : ((List.range its.toArray.size).any fun i => (bs[i]?).getD false) = bs.any id := by
     rw [List.size_toArray,hb.length]; exact range_any bs
   rw [e]
   exact ⟨.bl _,H,I.kept (LSm.kept_iter hk),rfl,q⟩
theorem ints_get : ∀ {is : List Int} {us : List Value},Vals (is.map V.int) us -> ∀ (i : Nat) (v : Value),us[i]? = some v -> ∃ n t,is[i]? = some n /\ v = .int n t := by
 intro is us r i v e
 obtain ⟨x,hx,rx⟩ : ∃ x,(is.map V.int)[i]? = some x /\ RelV x v := by
   have l := r.length
   have hi : i < (is.map V.int).length := by
     rw [l]; exact (List.getElem?_eq_some_iff.mp e).1
   obtain ⟨u,hu,ru⟩ := r.get (List.getElem?_eq_getElem hi)
   rw [e] at hu; cases hu
   exact ⟨_,List.getElem?_eq_getElem hi,ru⟩
 rw [List.getElem?_map] at hx
 obtain ⟨n,hn,rfl⟩ := Option.map_eq_some_iff.mp hx
 obtain ⟨t,rfl⟩ := rx
 exact ⟨n,t,hn,rfl⟩
theorem call_maxL (hc : X.calm = true) : CallR X (.builtin "max") (fun xs H Q => ∃ (p : Addr) (is : List Int),xs = [.ref p] /\ SqL X.K H p (is.map V.int) /\ is ≠ [] /\ ∀ m ∈ is,(∀ i ∈ is,i <= m) -> Q (.int m) H) := by
 intro pins s σ H xs us Q I r h
 obtain ⟨p,is,rfl,hq,ne,q⟩ := h
 obtain ⟨u,rfl,ru⟩ := vals1 r
 cases ru
 obtain ⟨its,rv,pl,_⟩ := I.list hq
 have hl := pl.isList
 have hlt : p < s.heap.objs.size := by obtain ⟨_,e,_⟩ := hl; exact Heap.lt_size e
 have len : its.length = is.length := by rw [<- rv.length,List.length_map]
 have pos : 0 < is.length := by cases is with | nil => exact absurd rfl ne | cons _ _ => exact Nat.succ_pos _
 refine call_max_walk (wpAny_pyIter_list hl ?_)
 refine ⟨s.heap.objs.size,[s.heap.objs.size,p],[s.heap.objs.size],its.toArray.size,_,_,fun i j => decide ((is[i]?).getD 0 > (is[j]?).getD 0),rfl,Walks.list (A := X.A.in1) (I.ok.hd hc) _ p (Nat.ne_of_lt hlt) its.toArray,
   ⟨⟨_,Heap.get?_push_size _ rfl,rfl,rfl⟩,hl.push _⟩,fun b hb => ?_,by rw [List.size_toArray,len]; exact pos,fun i j vi vj s' Q' E' hi hj hQ => ?_,fun v h' tk hv hk => ?_⟩
 . rw [Heap.size_push]
   simp only [List.mem_cons,List.not_mem_nil,or_false] at hb
   rcases hb with rfl | rfl
   . exact Nat.lt_succ_self _
   . exact Nat.lt_succ_of_lt hlt
 . obtain ⟨n1,t1,e1,rfl⟩ := ints_get rv i vi (by simpa using hi)
   obtain ⟨n2,t2,e2,rfl⟩ := ints_get rv j vj (by simpa using hj)
   simp only [e1,e2,Option.getD_some] at hQ
   exact gt_int hQ
 . obtain ⟨b1,b2⟩ := PySem.argBest_gt (fun i => (is[i]?).getD 0) (its.toArray.size - 1)
   obtain ⟨m,t,em,rfl⟩ := ints_get rv _ v (by simpa using hv)
   rw [List.size_toArray,len] at b2
   rw [len] at em
   refine ⟨.int m,H,I.kept (LSm.kept_iter hk),⟨t,rfl⟩,q m (List.mem_of_getElem? em) fun i hi => ?_⟩
   obtain ⟨j,ej⟩ := List.mem_iff_getElem?.mp hi
   have lj := (List.getElem?_eq_some_iff.mp ej).1
   have z := b2 j (by omega)
   simp only [em,ej,Option.getD_some] at z
   exact z
theorem call_minL (hc : X.calm = true) : CallR X (.builtin "min") (fun xs H Q => ∃ (p : Addr) (is : List Int),xs = [.ref p] /\ SqL X.K H p (is.map V.int) /\ is ≠ [] /\ ∀ m ∈ is,(∀ i ∈ is,m <= i) -> Q (.int m) H) := by
 intro pins s σ H xs us Q I r h
 obtain ⟨p,is,rfl,hq,ne,q⟩ := h
 obtain ⟨u,rfl,ru⟩ := vals1 r
 cases ru
 obtain ⟨its,rv,pl,_⟩ := I.list hq
 have hl := pl.isList
 have hlt : p < s.heap.objs.size := by obtain ⟨_,e,_⟩ := hl; exact Heap.lt_size e
 have len : its.length = is.length := by rw [<- rv.length,List.length_map]
 have pos : 0 < is.length := by cases is with | nil => exact absurd rfl ne | cons _ _ => exact Nat.succ_pos _
 refine call_min_walk (wpAny_pyIter_list hl ?_)
 refine ⟨s.heap.objs.size,[s.heap.objs.size,p],[s.heap.objs.size],its.toArray.size,_,_,fun i j => decide ((is[i]?).getD 0 < (is[j]?).getD 0),rfl,Walks.list (A := X.A.in1) (I.ok.hd hc) _ p (Nat.ne_of_lt hlt) its.toArray,
   ⟨⟨_,Heap.get?_push_size _ rfl,rfl,rfl⟩,hl.push _⟩,fun b hb => ?_,by rw [List.size_toArray,len]; exact pos,fun i j vi vj s' Q' E' hi hj hQ => ?_,fun v h' tk hv hk => ?_⟩
 . rw [Heap.size_push]
   simp only [List.mem_cons,List.not_mem_nil,or_false] at hb
   rcases hb with rfl | rfl
   . exact Nat.lt_succ_self _
   . exact Nat.lt_succ_of_lt hlt
 . obtain ⟨n1,t1,e1,rfl⟩ := ints_get rv i vi (by simpa using hi)
   obtain ⟨n2,t2,e2,rfl⟩ := ints_get rv j vj (by simpa using hj)
   simp only [e1,e2,Option.getD_some] at hQ
   exact lt_int hQ
 . obtain ⟨b1,b2⟩ := PySem.argBest_lt (fun i => (is[i]?).getD 0) (its.toArray.size - 1)
   obtain ⟨m,t,em,rfl⟩ := ints_get rv _ v (by simpa using hv)
   rw [List.size_toArray,len] at b2
   rw [len] at em
   refine ⟨.int m,H,I.kept (LSm.kept_iter hk),⟨t,rfl⟩,q m (List.mem_of_getElem? em) fun i hi => ?_⟩
   obtain ⟨j,ej⟩ := List.mem_iff_getElem?.mp hi
   have lj := (List.getElem?_eq_some_iff.mp ej).1
   have z := b2 j (by omega)
   simp only [em,ej,Option.getD_some] at z
   exact z
end
end L2
namespace L2
open PySem PySem.Spec PyProof.Rows
def ZipH (h : Heap) (z TI TO T : Addr) : Prop := ∃ b : Bool,h.get? z = some { cls := .type "zip",dict := none,data := .fields #[rawInt T,.bool b,.bool false,.ref TI,.ref TO],slots := #[] }
section
variable {prog : Program} {w : World} {A : Around} {E : Value -> Shared -> Prop} {s : Shared} {z TI TO T i1 i2 l1 l2 : Addr} {k1 k2 : Nat} {xs ys : Array Value}
theorem alive_ok {α : Type} {M : Model} {a : Addr} {o : Obj} {Q : Option Obj -> Shared -> Prop} (h : s.heap.get? a = some o) (q : Q (some o) s) : wpAny M A (loadIfAlive a) Q E s := fun Γ p hΓ => by
 show Sem.wp M Γ (.loadIfAlive a .pure) _ _ _ _
 rw [Sem.wp_loadIfAlive,h]
 exact q
theorem owned_held {Q : Bool -> Shared -> Prop} (hz : ZipH s.heap z TI TO T) (hT : ∃ o,s.heap.get? T = some o) (hQ : ∀ h',ZipH h' z TI TO T -> Heap.SameBut z s.heap h' -> Q false { s with heap := h' }) :
   wpAny (model prog w) A (Builtin.SmallTypes.ownedTupleIsFree (.ref z)) Q E s := by
 obtain ⟨b,hz⟩ := hz
 obtain ⟨oT,hT⟩ := hT
 unfold Builtin.SmallTypes.ownedTupleIsFree
 refine wpAny_bind (wpAny_field hz rfl (x := rawInt T) rfl ?_)
 show wpAny _ _ (loadIfAlive (Int.toNat (T : Int)) >>= _) _ _ _
 refine wpAny_bind (alive_ok (α := Unit) (by rw [Int.toNat_natCast]; exact hT) ?_)
 refine wpAny_bind (wpAny_field hz rfl (x := .bool b) rfl ?_)
 cases b with
 | false =>
   show wpAny _ _ (if (Value.bool false != Value.bool true) = true then _ else _) _ _ _
   rw [if_pos (by decide)]
   exact wpAny_bind (wpAny_setField_rec hz (by simp) fun h1 hz1 hs1 => wpAny_pure (hQ h1 ⟨true,hz1⟩ hs1))
 | true =>
   show wpAny _ _ (if (Value.bool true != Value.bool true) = true then _ else _) _ _ _
   rw [if_neg (by decide)]
   exact wpAny_pure (hQ s.heap ⟨true,hz⟩ (Heap.SameBut.refl _ _))
theorem ZipH.ext {h h' : Heap} (hz : ZipH h z TI TO T) (k : ∀ o,h.get? z = some o -> h'.get? z = some o) : ZipH h' z TI TO T := let ⟨b,e⟩ := hz; ⟨b,k _ e⟩
theorem held_item {x y : Value} {Q : Value -> Shared -> Prop} (D : ZipApart z TI TO i1 i2 l1 l2) (hz : ZipH s.heap z TI TO T) (hT : ∃ o,s.heap.get? T = some o) (hTI : IsPair s.heap TI (.ref i1) (.ref i2))
   (h1 : s.heap.IsListIter i1 l1 k1) (h2 : s.heap.IsListIter i2 l2 k2) (hl1 : s.heap.IsList l1 xs) (hl2 : s.heap.IsList l2 ys) (hx : xs[k1]? = some x) (hy : ys[k2]? = some y)
   (hQ : ∀ h',ZipH h' z TI TO T -> h'.IsListIter i1 l1 (k1 + 1) -> h'.IsListIter i2 l2 (k2 + 1) -> IsPair h' s.heap.objs.size x y -> h'.objs.size = s.heap.objs.size + 1 ->
     (∀ c o,c ≠ z -> c ≠ i1 -> c ≠ i2 -> s.heap.get? c = some o -> h'.get? c = some o) -> Q (.ref s.heap.objs.size) { s with heap := h' }) :
   wpAny (model prog w) A (Builtin.«zip.__next__» ⟨[.ref z],[]⟩) (fun fin s' => ∃ v,fin = .done (.ret v) /\ Q v s') E s := by
 obtain ⟨b,hz0⟩ := id hz
 show wpAny _ _ (field (.ref z) 2 >>= _) _ _ _
 refine wpAny_bind (wpAny_field hz0 rfl (x := .bool false) rfl ?_)
 show wpAny _ _ (field (.ref z) 3 >>= _) _ _ _
 refine wpAny_bind (wpAny_field hz0 rfl (x := .ref TI) rfl ?_)
 refine wpAny_bind (wpAny_seqItems hTI rfl ?_)
 show wpAny _ _ (Builtin.SmallTypes.ownedTupleIsFree (.ref z) >>= _) _ _ _
 refine wpAny_bind (owned_held hz hT fun h₁ hz₁ hs₁ => ?_)
 simp only [Bool.false_eq_true,if_false]
 refine wpAny_bind ?_
 rw [<- Array.forIn_toList]
 simp only [List.forIn_cons,List.forIn_nil]
 refine wpAny_bind (wpAny_bind (wpAny_holding ?_))
 show wpAny _ _ (Builtin.SmallTypes.nextOf (.ref i1) >>= _) _ _ _
 refine wpAny_bind (wpAny_nextOf_list_item (h1.extBut hs₁.extBut D.i1z) (hl1.extBut hs₁.extBut D.l1z) hx fun h₂ g₂ hs₂ => wpAny_pure (wpAny_pure ?_))
 refine wpAny_bind (wpAny_bind (wpAny_holding ?_))
 show wpAny _ _ (Builtin.SmallTypes.nextOf (.ref i2) >>= _) _ _ _
 have b2 := (h2.extBut hs₁.extBut D.i2z).extBut hs₂.extBut D.i12.symm
 have b3 := (hl2.extBut hs₁.extBut D.l2z).extBut hs₂.extBut D.l2i1
 refine wpAny_bind (wpAny_nextOf_list_item b2 b3 hy fun h₃ g₃ hs₃ => wpAny_pure (wpAny_pure (wpAny_pure ?_)))
 refine wpAny_bind (wpAny_newTuple (hsz := by show 2 <= sizeLine; rw [sizeLine_eq]; decide) ?_)
 have hsz : h₃.objs.size = s.heap.objs.size := by rw [hs₃.1,hs₂.1,hs₁.1]
 have kk : ∀ c o,c ≠ z -> c ≠ i1 -> c ≠ i2 -> s.heap.get? c = some o -> h₃.get? c = some o := fun c o c1 c2 c3 e => hs₃.extBut _ _ c3 (hs₂.extBut _ _ c2 (hs₁.extBut _ _ c1 e))
 have z₃ : ZipH h₃ z TI TO T := hz₁.ext fun o e => hs₃.extBut _ _ D.i2z.symm (hs₂.extBut _ _ D.i1z.symm e)
 refine wpAny_pure ⟨_,rfl,?_⟩
 show Q (.ref h₃.objs.size) _
 rw [hsz]
 have q₁ : (h₃.push { cls := .type "tuple",data := .seq #[x,y] }).IsListIter i1 l1 (k1 + 1) := (g₂.extBut hs₃.extBut D.i12).at fun o e => Heap.get?_push_of_some _ e
 refine hQ _ (z₃.ext fun o e => Heap.get?_push_of_some _ e) q₁ (g₃.at fun o e => Heap.get?_push_of_some _ e) (by rw [<- hsz]; exact Heap.get?_push_size _ rfl) (by rw [Heap.size_push,hsz]) fun c o c1 c2 c3 e => Heap.get?_push_of_some _ (kk c o c1 c2 c3 e)
theorem held_end {Q : Fin -> Shared -> Prop} (hh : A.handled = none) (D : ZipApart z TI TO i1 i2 l1 l2) (hz : ZipH s.heap z TI TO T) (hT : ∃ o,s.heap.get? T = some o) (hTI : IsPair s.heap TI (.ref i1) (.ref i2))
   (h1 : s.heap.IsListIter i1 l1 k1) (h2 : s.heap.IsListIter i2 l2 k2) (hl1 : s.heap.IsList l1 xs) (hl2 : s.heap.IsList l2 ys) (hend : xs[k1]? = none ∨ ys[k2]? = none)
   (hE : ∀ h' e,(∀ c o,c ≠ z -> c ≠ i1 -> c ≠ i2 -> s.heap.get? c = some o -> h'.get? c = some o) -> (∃ o,h'.get? e = some o /\ o.cls = .type "StopIteration") -> E (.ref e) { s with heap := h' }) :
   wpAny (model prog w) A (Builtin.«zip.__next__» ⟨[.ref z],[]⟩) Q E s := by
 obtain ⟨b,hz0⟩ := id hz
 show wpAny _ _ (field (.ref z) 2 >>= _) _ _ _
 refine wpAny_bind (wpAny_field hz0 rfl (x := .bool false) rfl ?_)
 show wpAny _ _ (field (.ref z) 3 >>= _) _ _ _
 refine wpAny_bind (wpAny_field hz0 rfl (x := .ref TI) rfl ?_)
 refine wpAny_bind (wpAny_seqItems hTI rfl ?_)
 show wpAny _ _ (Builtin.SmallTypes.ownedTupleIsFree (.ref z) >>= _) _ _ _
 refine wpAny_bind (owned_held hz hT fun h₁ hz₁ hs₁ => ?_)
 simp only [Bool.false_eq_true,if_false]
 refine wpAny_bind ?_
 rw [<- Array.forIn_toList]
 simp only [List.forIn_cons,List.forIn_nil]
 refine wpAny_bind (wpAny_bind (wpAny_holding ?_))
 show wpAny _ _ (Builtin.SmallTypes.nextOf (.ref i1) >>= _) _ _ _
 have a1 := h1.extBut hs₁.extBut D.i1z
 have a2 := hl1.extBut hs₁.extBut D.l1z
 cases hx : xs[k1]? with
 | none => exact wpAny_bind (wpAny_nextOf_list_end hh a1 a2 hx fun h₂ e hs₂ he => hE h₂ e (fun c o c1 c2 c3 q => hs₂ _ _ c2 (hs₁.extBut _ _ c1 q)) he)
 | some x =>
   have hy : ys[k2]? = none := hend.resolve_left fun q => by rw [hx] at q; cases q
   refine wpAny_bind (wpAny_nextOf_list_item a1 a2 hx fun h₂ g₂ hs₂ => wpAny_pure (wpAny_pure ?_))
   refine wpAny_bind (wpAny_bind (wpAny_holding ?_))
   show wpAny _ _ (Builtin.SmallTypes.nextOf (.ref i2) >>= _) _ _ _
   have b2 := (h2.extBut hs₁.extBut D.i2z).extBut hs₂.extBut D.i12.symm
   have b3 := (hl2.extBut hs₁.extBut D.l2z).extBut hs₂.extBut D.l2i1
   exact wpAny_bind (wpAny_nextOf_list_end hh b2 b3 hy fun h₃ e hs₃ he => hE h₃ e (fun c o c1 c2 c3 q => hs₃ _ _ c3 (hs₂.extBut _ _ c2 (hs₁.extBut _ _ c1 q))) he)
theorem held_next {x y : Value} {Q : Option Value -> Shared -> Prop} (D : ZipApart z TI TO i1 i2 l1 l2) (hz : ZipH s.heap z TI TO T) (hT : ∃ o,s.heap.get? T = some o) (hTI : IsPair s.heap TI (.ref i1) (.ref i2))
   (h1 : s.heap.IsListIter i1 l1 k1) (h2 : s.heap.IsListIter i2 l2 k2) (hl1 : s.heap.IsList l1 xs) (hl2 : s.heap.IsList l2 ys) (hx : xs[k1]? = some x) (hy : ys[k2]? = some y)
   (hQ : ∀ h',ZipH h' z TI TO T -> h'.IsListIter i1 l1 (k1 + 1) -> h'.IsListIter i2 l2 (k2 + 1) -> IsPair h' s.heap.objs.size x y -> h'.objs.size = s.heap.objs.size + 1 ->
     (∀ c o,c ≠ z -> c ≠ i1 -> c ≠ i2 -> s.heap.get? c = some o -> h'.get? c = some o) -> Q (some (.ref s.heap.objs.size)) { s with heap := h' }) : wpAny (model prog w) A (pyNext (.ref z)) Q E s := by
 have ty : s.TypeIs (.ref z) "zip" := by obtain ⟨b,e⟩ := hz; exact ⟨_,e,rfl⟩
 unfold pyNext
 exact wpAny_bind (wpAny_attempt (wpAny_callSpecial?_slot (name := Str.ofString "__next__") ty F.slot_zip_next (wpAny_call_entry F.slot_zip_next ty F.entry_zip_next
     (held_item D hz hT hTI h1 h2 hl1 hl2 hx hy fun h' b1 b2 b3 b4 b5 b6 => wpAny_pure (hQ h' b1 b2 b3 b4 b5 b6)) (F.args_zip_next_1 _))))
theorem held_stop {Q : Option Value -> Shared -> Prop} (hh : A.handled = none) (D : ZipApart z TI TO i1 i2 l1 l2) (hz : ZipH s.heap z TI TO T) (hT : ∃ o,s.heap.get? T = some o) (hTI : IsPair s.heap TI (.ref i1) (.ref i2))
   (h1 : s.heap.IsListIter i1 l1 k1) (h2 : s.heap.IsListIter i2 l2 k2) (hl1 : s.heap.IsList l1 xs) (hl2 : s.heap.IsList l2 ys) (hend : xs[k1]? = none ∨ ys[k2]? = none)
   (hQ : ∀ h',(∀ c o,c ≠ z -> c ≠ i1 -> c ≠ i2 -> s.heap.get? c = some o -> h'.get? c = some o) -> Q none { s with heap := h' }) : wpAny (model prog w) A (pyNext (.ref z)) Q E s := by
 have ty : s.TypeIs (.ref z) "zip" := by obtain ⟨b,e⟩ := hz; exact ⟨_,e,rfl⟩
 unfold pyNext
 refine wpAny_bind (wpAny_attempt (wpAny_callSpecial?_slot (name := Str.ofString "__next__") ty F.slot_zip_next (wpAny_call_entry F.slot_zip_next ty F.entry_zip_next (held_end hh D hz hT hTI h1 h2 hl1 hl2 hend fun h' e hk he => ?_) (F.args_zip_next_1 _))))
 obtain ⟨o,ho,hc⟩ := he
 exact wpAny_bind (wpAny_isInstance (T := "StopIteration") (b := true) ⟨o,ho,hc⟩ isSubtype_stop (wpAny_pure (hQ _ hk)))
structure ZSt (z TI TO i1 i2 l1 l2 S lo : Addr) (xs ys : Array Value) (i : Nat) (Ts : List Addr) (h : Heap) : Prop where
 hTI : IsPair h TI (.ref i1) (.ref i2)
 h1 : h.IsListIter i1 l1 i
 h2 : h.IsListIter i2 l2 i
 hl1 : h.IsList l1 xs
 hl2 : h.IsList l2 ys
 zip : (i = 0 /\ IsZip h z TI TO .none) ∨ ∃ T : Addr,Ts[0]? = some T /\ ZipH h z TI TO T
 hTO : ∃ a b,IsPair h TO a b
 size : Ts.length = i
 up : Ts.Pairwise (· < ·)
 sz : lo <= h.objs.size
 items : ∀ (j : Nat) (T : Addr),Ts[j]? = some T -> ∃ (x y : Value),xs[j]? = some x /\ ys[j]? = some y /\ IsPair h T x y /\ lo <= T /\ T ≠ z /\ T ≠ TO /\ T ≠ i1 /\ T ≠ i2 /\ T ≠ S
def ZFin (S lo : Addr) (xs ys : Array Value) (n : Nat) (Ts : List Addr) (h : Heap) : Prop := Ts.length = n /\ Ts.Pairwise (· < ·) /\ ∀ (j : Nat) (T : Addr),Ts[j]? = some T -> ∃ (x y : Value),xs[j]? = some x /\ ys[j]? = some y /\ IsPair h T x y /\ lo <= T /\ T ≠ S
theorem ext_zip {R : Result -> Shared -> Prop} {S lo : Addr} {n : Nat} (hh : A.in1.handled = none) (D : ZipApart z TI TO i1 i2 l1 l2) (s1 : S ≠ z) (s2 : S ≠ TI) (s3 : S ≠ TO) (s4 : S ≠ i1) (s5 : S ≠ i2) (s6 : S ≠ l1) (s7 : S ≠ l2) (hn : n = min xs.size ys.size) (hb : n <= sizeLine) (res : Value) :
   ∀ (k i : Nat) (s : Shared) (Ts : List Addr) (c : Nat),n - i = k -> i <= n -> ZSt z TI TO i1 i2 l1 l2 S lo xs ys i Ts s.heap -> s.heap.get? S = some { cls := .type "list",dict := none,data := .seq (Ts.map Value.ref).toArray c,slots := #[] } ->
   (∀ (h' : Heap) (Ts' : List Addr) (c' : Nat),ZFin S lo xs ys n Ts' h' -> (∀ b o,b ≠ S -> b ≠ z -> b ≠ TO -> b ≠ i1 -> b ≠ i2 -> s.heap.get? b = some o -> h'.get? b = some o) ->
     h'.get? S = some { cls := .type "list",dict := none,data := .seq (Ts'.map Value.ref).toArray c',slots := #[] } -> R (.ok (.ret res)) { s with heap := h' }) ->
   codeAny (model prog w) A (.builtin "list.extend.loop" ⟨[.ref S,.ref z,res],[]⟩) R s := by
 intro k
 induction k with
 | zero =>
   intro i s Ts c hk hi st hS hR
   have hin : i = n := by omega
   refine codeAny_builtin F.entry_extend_loop ?_
   rw [Around.under_plainId F.plain_extend_loop _]
   show wpAny _ A.in1 (pyNext (.ref z) >>= _) _ _ s
   have hend : xs[i]? = none ∨ ys[i]? = none := by
     rcases Nat.le_total xs.size ys.size with q | q
     . exact .inl (Array.getElem?_eq_none (by omega))
     . exact .inr (Array.getElem?_eq_none (by omega))
   have fin : ∀ h',(∀ c o,c ≠ z -> c ≠ TO -> c ≠ i1 -> c ≠ i2 -> s.heap.get? c = some o -> h'.get? c = some o) -> R (.ok (.ret res)) { s with heap := h' } := fun h' kk =>
     hR h' Ts c ⟨by rw [<- hin]; exact st.size,st.up,fun j T e => by
       obtain ⟨x,y,a1,a2,a3,a4,a5,a6,a7,a8,a9⟩ := st.items j T e
       exact ⟨x,y,a1,a2,kk _ _ a5 a6 a7 a8 a3,a4,a9⟩⟩ (fun b o _ c2 c3 c4 c5 e => kk b o c2 c3 c4 c5 e) (kk _ _ s1 s3 s4 s5 hS)
   rcases st.zip with ⟨_,hz⟩ | ⟨T,eT,hz⟩
   . obtain ⟨a,b,hTO⟩ := st.hTO
     exact wpAny_bind (wpAny_pyNext_zip_end hh D hz st.hTI hTO st.h1 st.h2 st.hl1 st.hl2 hend fun h' kk => wpAny_pure (fin h' kk))
   . obtain ⟨x,y,_,_,pT,_⟩ := st.items 0 T eT
     exact wpAny_bind (held_stop hh D hz ⟨_,pT⟩ st.hTI st.h1 st.h2 st.hl1 st.hl2 hend fun h' kk => wpAny_pure (fin h' fun c o c1 _ c3 c4 e => kk c o c1 c3 c4 e))
 | succ k ih =>
   intro i s Ts c hk hi st hS hR
   have hlt : i < n := by omega
   refine codeAny_builtin F.entry_extend_loop ?_
   rw [Around.under_plainId F.plain_extend_loop _]
   show wpAny _ A.in1 (pyNext (.ref z) >>= _) _ _ s
   have hx : xs[i]? = some xs[i] := Array.getElem?_eq_getElem (by omega)
   have hy : ys[i]? = some ys[i] := Array.getElem?_eq_getElem (by omega)
   obtain ⟨T,hT⟩ : ∃ T,T = s.heap.objs.size := ⟨_,rfl⟩
   have lz : z < s.heap.objs.size := by
     rcases st.zip with ⟨_,e⟩ | ⟨_,_,b,e⟩
     . exact Heap.lt_size e
     . exact Heap.lt_size e
   have lTO : TO < s.heap.objs.size := by obtain ⟨_,_,e⟩ := st.hTO; exact Heap.lt_size e
   have li1 : i1 < s.heap.objs.size := by obtain ⟨_,e,_⟩ := st.h1; exact Heap.lt_size e
   have li2 : i2 < s.heap.objs.size := by obtain ⟨_,e,_⟩ := st.h2; exact Heap.lt_size e
   have lS : S < s.heap.objs.size := Heap.lt_size hS
   have next : ∀ h',((i + 1 = 0 /\ IsZip h' z TI TO .none) ∨ ∃ T' : Addr,(Ts ++ [T])[0]? = some T' /\ ZipH h' z TI TO T') -> (∃ a b,IsPair h' TO a b) -> h'.IsListIter i1 l1 (i + 1) -> h'.IsListIter i2 l2 (i + 1) -> IsPair h' T xs[i] ys[i] -> h'.objs.size = s.heap.objs.size + 1 ->
       (∀ c o,c ≠ z -> c ≠ TO -> c ≠ i1 -> c ≠ i2 -> s.heap.get? c = some o -> h'.get? c = some o) -> wpAny (model prog w) A.in1 (updateSeq S (·.push (.ref T)) >>= fun _ => again (.builtin "list.extend.loop" ⟨[.ref S,.ref z,res],[]⟩))
         (fun fin s' => match fin with | .done f => R (.ok f) s' | .again c' => c'.quiet = true /\ codeAny (model prog w) A c' R s') (fun e s' => R (.error e) s') { s with heap := h' } := by
     intro h' zz hTO h1 h2 pT size kk
     have hS' := kk _ _ s1 s3 s4 s5 hS
     have ln : (Ts.map Value.ref).toArray.size = i := by simp [st.size]
     refine wpAny_bind ?_
     refine wpAny_updateSeq hS' rfl (wpAny_pure ⟨plainId_quiet F.plain_extend_loop _,?_⟩) (by rw [ln]; omega) (by show ((Ts.map Value.ref).toArray.push _).size <= sizeLine + 1; rw [Array.size_push,ln]; omega)
     have o : ∀ b o,b ≠ S -> h'.get? b = some o -> (h'.update S (Obj.mapSeq (·.push (Value.ref T)))).get? b = some o := fun b o nb e => (Heap.get?_update_other _ _ (Ne.symm nb)).trans e
     have TS : T ≠ S := by rw [hT]; exact Nat.ne_of_gt lS
     have e2 : (h'.update S (Obj.mapSeq (·.push (Value.ref T)))).get? S = some { cls := .type "list",dict := none,data := .seq ((Ts ++ [T]).map Value.ref).toArray (c + 1),slots := #[] } := by
       have z := Heap.get?_update_self (Obj.mapSeq (·.push (Value.ref T))) hS' rfl
       rw [z]
       simp [Obj.mapSeq]
     refine ih (i + 1) _ (Ts ++ [T]) (c + 1) (by omega) hlt ⟨o _ _ (Ne.symm s2) (kk _ _ D.TIz D.TITO D.TIi1 D.TIi2 st.hTI),h1.at fun o' e => o _ o' (Ne.symm s4) e,h2.at fun o' e => o _ o' (Ne.symm s5) e,
       st.hl1.at fun o' e => o _ o' (Ne.symm s6) (kk _ o' D.l1z D.l1TO D.l1i1 D.l1i2 e),st.hl2.at fun o' e => o _ o' (Ne.symm s7) (kk _ o' D.l2z D.l2TO D.l2i1 D.l2i2 e),?_,?_,by simp [st.size],?_,?_,fun j T2 e => ?_⟩ e2 ?_
     . rcases zz with ⟨q,_⟩ | ⟨T',e,hz⟩
       . omega
       . exact .inr ⟨T',e,hz.ext fun o' e => o _ o' (Ne.symm s1) e⟩
     . obtain ⟨a,b,e⟩ := hTO
       exact ⟨a,b,o _ _ (Ne.symm s3) e⟩
     . refine List.pairwise_append.mpr ⟨st.up,List.pairwise_singleton _ _,fun a ha b hb => ?_⟩
       rw [List.mem_singleton.mp hb,hT]
       obtain ⟨j,ej⟩ := List.mem_iff_getElem?.mp ha
       obtain ⟨x,y,_,_,p,_⟩ := st.items j a ej
       exact Heap.lt_size p
     . rw [(Heap.SameBut.update h' S (Obj.mapSeq (·.push (Value.ref T)))).1,size]
       exact Nat.le_succ_of_le st.sz
     . rcases Nat.lt_or_ge j Ts.length with q | q
       . rw [List.getElem?_append_left q] at e
         obtain ⟨x,y,a1,a2,a3,a4,a5,a6,a7,a8,a9⟩ := st.items j T2 e
         exact ⟨x,y,a1,a2,o _ _ a9 (kk _ _ a5 a6 a7 a8 a3),a4,a5,a6,a7,a8,a9⟩
       . rw [List.getElem?_append_right q] at e
         have ej : j - Ts.length = 0 := by
           rcases Nat.eq_zero_or_pos (j - Ts.length) with w | w
           . exact w
           . rw [List.getElem?_eq_none (by simp; omega)] at e; cases e
         rw [ej] at e
         have e' : T = T2 := Option.some.inj e
         have ji : j = i := by have := st.size; omega
         subst e' ji
         refine ⟨xs[j],ys[j],hx,hy,o _ _ TS pT,by rw [hT]; exact st.sz,?_,?_,?_,?_,TS⟩ <;> (rw [hT]; first | exact Nat.ne_of_gt lz | exact Nat.ne_of_gt lTO | exact Nat.ne_of_gt li1 | exact Nat.ne_of_gt li2)
     . exact fun h'' Ts' c' fin k2 hS2 => hR h'' Ts' c' fin (fun b ob c1 c2 c3 c4 c5 e => k2 b ob c1 c2 c3 c4 c5 (o b ob c1 (kk b ob c2 c3 c4 c5 e))) hS2
   subst hT
   rcases st.zip with ⟨i0,hz⟩ | ⟨T0,eT0,hz⟩
   . obtain ⟨a,b,hTO⟩ := st.hTO
     refine wpAny_bind (wpAny_pyNext_zip_item D hz st.hTI hTO st.h1 st.h2 st.hl1 st.hl2 hx hy fun h' a1 a2 a3 a4 a5 a6 a7 => ?_)
     refine next h' (.inr ⟨_,?_,false,a1⟩) ⟨_,_,a2⟩ a3 a4 a5 a6 a7
     have : Ts = [] := List.length_eq_zero_iff.mp (by rw [st.size]; exact i0)
     rw [this]; rfl
   . obtain ⟨x,y,_,_,pT,_⟩ := st.items 0 T0 eT0
     refine wpAny_bind (held_next D hz ⟨_,pT⟩ st.hTI st.h1 st.h2 st.hl1 st.hl2 hx hy fun h' b1 b2 b3 b4 b5 b6 => ?_)
     refine next h' (.inr ⟨T0,?_,b1⟩) ?_ b2 b3 b4 b5 (fun c o c1 _ c3 c4 e => b6 c o c1 c3 c4 e)
     . rw [List.getElem?_append_left (List.getElem?_eq_some_iff.mp eT0).1]; exact eT0
     . obtain ⟨a,b,e⟩ := st.hTO
       exact ⟨a,b,b6 _ _ D.TOz D.TOi1 D.TOi2 e⟩
theorem zip_nolen : typeLookup (.type "zip") "__len__" = pure none := by rw [typeLookup_type]; rw [builtinLookup_eq_fast]; kernel_rfl
theorem zip_nohint : typeLookup (.type "zip") "__length_hint__" = pure none := by rw [typeLookup_type]; rw [builtinLookup_eq_fast]; kernel_rfl
def ZDone (S lo : Addr) (z TO i1 i2 : Addr) (xs ys : Array Value) (s : Shared) (Q : Shared -> Prop) : Prop := ∀ (h' : Heap) (Ts' : List Addr) (c' : Nat),ZFin S lo xs ys (min xs.size ys.size) Ts' h' ->
 (∀ b o,b ≠ S -> b ≠ z -> b ≠ TO -> b ≠ i1 -> b ≠ i2 -> s.heap.get? b = some o -> h'.get? b = some o) -> h'.get? S = some { cls := .type "list",dict := none,data := .seq (Ts'.map Value.ref).toArray c',slots := #[] } -> Q { s with heap := h' }
theorem extend_zip {R : Result -> Shared -> Prop} {S lo : Addr} {c₀ : Nat} (hh : A.in1.handled = none) (D : ZipApart z TI TO i1 i2 l1 l2) (s1 : S ≠ z) (s2 : S ≠ TI) (s3 : S ≠ TO) (s4 : S ≠ i1) (s5 : S ≠ i2) (s6 : S ≠ l1) (s7 : S ≠ l2) (hb : min xs.size ys.size <= sizeLine) (res : Value)
   (hz : IsZip s.heap z TI TO .none) (st : ZSt z TI TO i1 i2 l1 l2 S lo xs ys 0 [] s.heap) (hS : s.heap.get? S = some { cls := .type "list",data := .seq #[] c₀ }) (hR : ZDone S lo z TO i1 i2 xs ys s (R (.ok (.ret res)))) :
   wpAny (model prog w) A.in1 (Builtin.List.listExtendWith (.ref S) (.ref z) res) (fun fin s' => match fin with | .done f => R (.ok f) s' | .again c' => c'.quiet = true /\ codeAny (model prog w) A c' R s') (fun e s' => R (.error e) s') s := by
 have ty : s.TypeIs (.ref z) "zip" := ⟨_,hz,rfl⟩
 unfold Builtin.List.listExtendWith
 refine wpAny_bind (wpAny_typeOf ty ?_)
 have e1 : Builtin.List.listSameRef (.ref S) (.ref z) = false := by simp [Builtin.List.listSameRef,s1]
 have e2 : (Value.type "zip" == Value.type "list") = false := (by decide)
 have e3 : (Value.type "zip" == Value.type "tuple") = false := (by decide)
 simp only [e1,e2,e3,Bool.or_false,Bool.false_eq_true,if_false]
 refine wpAny_bind (wpAny_pyIter_zip hz ?_)
 refine wpAny_bind (wpAny_holding ?_); unfold Builtin.List.listLengthHint
 refine wpAny_bind (wpAny_specialOf ty zip_nolen ?_)
 show wpAny _ A.in1 (specialOf (Value.ref z) (Str.ofString "__length_hint__") >>= _) _ _ _
 refine wpAny_bind (wpAny_specialOf ty zip_nohint (wpAny_pure ?_))
 show wpAny _ A.in1 (rule "list.extend.makes-room" >>= fun _ => Builtin.List.listTouch (.ref S) >>= fun _ => again (.builtin "list.extend.loop" ⟨[.ref S,.ref z,res],[]⟩)) _ _ _
 refine wpAny_bind (wpAny_rule (wpAny_bind ?_))
 show wpAny _ A.in1 (updateSeq S (·.push .none) >>= fun _ => updateSeq S (·.pop)) _ _ _
 refine wpAny_bind (wpAny_updateSeq hS rfl ?_)
 have g2 := Heap.get?_update_self (Obj.mapSeq (·.push Value.none)) hS rfl
 refine wpAny_updateSeq (hz := by seq_fits) g2 rfl ?_
 have g3 := Heap.get?_update_self (Obj.mapSeq (·.pop)) g2 rfl
 have oth : ∀ b o,b ≠ S -> s.heap.get? b = some o -> ((s.heap.update S (Obj.mapSeq (·.push Value.none))).update S (Obj.mapSeq (·.pop))).get? b = some o := fun b o nb e =>
   (Heap.get?_update_other _ _ (Ne.symm nb)).trans ((Heap.get?_update_other _ _ (Ne.symm nb)).trans e)
 have lz : ((s.heap.update S (Obj.mapSeq (·.push Value.none))).update S (Obj.mapSeq (·.pop))).objs.size = s.heap.objs.size := by rw [(Heap.SameBut.update _ _ _).1,(Heap.SameBut.update _ _ _).1]
 refine wpAny_pure ⟨plainId_quiet F.plain_extend_loop _,ext_zip (lo := lo) hh D s1 s2 s3 s4 s5 s6 s7 rfl hb res _ 0 _ [] _ rfl (Nat.zero_le _) ⟨oth _ _ (Ne.symm s2) st.hTI,st.h1.at fun o e => oth _ o (Ne.symm s4) e,st.h2.at fun o e => oth _ o (Ne.symm s5) e,st.hl1.at fun o e => oth _ o (Ne.symm s6) e,st.hl2.at fun o e => oth _ o (Ne.symm s7) e,
   .inl ⟨rfl,oth _ _ (Ne.symm s1) hz⟩,?_,rfl,List.Pairwise.nil,by rw [lz]; exact st.sz,fun j T e => by simp at e⟩ g3 fun h' Ts' c' fin kk hS' => ?_⟩
 . obtain ⟨a,b,e⟩ := st.hTO
   exact ⟨a,b,oth _ _ (Ne.symm s3) e⟩
 . exact hR h' Ts' c' fin (fun b o c1 c2 c3 c4 c5 e => kk b o c1 c2 c3 c4 c5 (oth b o c1 e)) hS'
theorem init_zip {R : Result -> Shared -> Prop} {S lo : Addr} (hh : A.in1.handled = none) (D : ZipApart z TI TO i1 i2 l1 l2) (s1 : S ≠ z) (s2 : S ≠ TI) (s3 : S ≠ TO) (s4 : S ≠ i1) (s5 : S ≠ i2) (s6 : S ≠ l1) (s7 : S ≠ l2) (hb : min xs.size ys.size <= sizeLine)
   (hz : IsZip s.heap z TI TO .none) (st : ZSt z TI TO i1 i2 l1 l2 S lo xs ys 0 [] s.heap) (hS : s.heap.get? S = some { cls := .type "list",data := .seq #[] }) (hR : ZDone S lo z TO i1 i2 xs ys s (R (.ok (.ret .none)))) :
   wpAny (model prog w) A.in1 (Builtin.«list.__init__» ⟨[.ref S,.ref z],[]⟩) (fun fin s' => match fin with | .done f => R (.ok f) s' | .again c' => c'.quiet = true /\ codeAny (model prog w) A c' R s') (fun e s' => R (.error e) s') s := by
 show wpAny _ A.in1 (do let old <- Builtin.List.listItems (.ref S); Builtin.List.listUpdate (.ref S) (fun _ => #[]); letGo old.toList.reverse; Builtin.List.listExtendWith (.ref S) (.ref z) .none) _ _ s
 refine wpAny_bind ?_; unfold Builtin.List.listItems
 refine wpAny_bind (wpAny_seqItems hS rfl (wpAny_pure ?_))
 show wpAny _ A.in1 (updateSeq S (fun _ => #[]) >>= fun _ => letGo (#[] : Array Value).toList.reverse >>= fun _ => Builtin.List.listExtendWith (.ref S) (.ref z) .none) _ _ s
 refine wpAny_bind (wpAny_updateSeq hS rfl ?_)
 have g2 := Heap.get?_update_self (Obj.mapSeq (fun _ => (#[] : Array Value))) hS rfl
 have oth : ∀ b o,b ≠ S -> s.heap.get? b = some o -> (s.heap.update S (Obj.mapSeq (fun _ => (#[] : Array Value)))).get? b = some o := fun b o nb e => (Heap.get?_update_other _ _ (Ne.symm nb)).trans e
 refine wpAny_bind (wpAny_letGo ?_)
 refine extend_zip (lo := lo) hh D s1 s2 s3 s4 s5 s6 s7 hb .none (oth _ _ (Ne.symm s1) hz) ⟨oth _ _ (Ne.symm s2) st.hTI,st.h1.at fun o e => oth _ o (Ne.symm s4) e,st.h2.at fun o e => oth _ o (Ne.symm s5) e,st.hl1.at fun o e => oth _ o (Ne.symm s6) e,st.hl2.at fun o e => oth _ o (Ne.symm s7) e,
   .inl ⟨rfl,oth _ _ (Ne.symm s1) hz⟩,?_,rfl,List.Pairwise.nil,by rw [(Heap.SameBut.update _ _ _).1]; exact st.sz,fun j T e => by simp at e⟩ g2 fun h' Ts' c' fin kk hS' => ?_
 . obtain ⟨a,b,e⟩ := st.hTO
   exact ⟨a,b,oth _ _ (Ne.symm s3) e⟩
 . exact hR h' Ts' c' fin (fun b o c1 c2 c3 c4 c5 e => kk b o c1 c2 c3 c4 c5 (oth b o c1 e)) hS'
theorem list_zip {Q : Value -> Shared -> Prop} (hh : A.in1.in1.handled = none) (D : ZipApart z TI TO i1 i2 l1 l2) (hb : min xs.size ys.size <= sizeLine) (hz : IsZip s.heap z TI TO .none) (hTI : IsPair s.heap TI (.ref i1) (.ref i2)) (hTO : ∃ a b,IsPair s.heap TO a b)
   (h1 : s.heap.IsListIter i1 l1 0) (h2 : s.heap.IsListIter i2 l2 0) (hl1 : s.heap.IsList l1 xs) (hl2 : s.heap.IsList l2 ys)
   (hQ : ∀ (h' : Heap) (Ts' : List Addr) (c' : Nat),ZFin s.heap.objs.size s.heap.objs.size xs ys (min xs.size ys.size) Ts' h' -> (∀ b o,b ≠ s.heap.objs.size -> b ≠ z -> b ≠ TO -> b ≠ i1 -> b ≠ i2 -> s.heap.get? b = some o -> h'.get? b = some o) ->
     h'.get? s.heap.objs.size = some { cls := .type "list",dict := none,data := .seq (Ts'.map Value.ref).toArray c',slots := #[] } -> Q (.ref s.heap.objs.size) { s with heap := h' }) : wpAny (model prog w) A (call (.type "list") [.ref z]) Q E s := by
 have ne : ∀ {b : Addr} {o : Obj},s.heap.get? b = some o -> s.heap.objs.size ≠ b := fun e => Nat.ne_of_gt (Heap.lt_size e)
 have up : ∀ b o,s.heap.get? b = some o -> (s.heap.push { cls := .type "list",data := .seq #[] }).get? b = some o := fun b o e => Heap.get?_push_of_some _ e
 have n4 : s.heap.objs.size ≠ i1 := by obtain ⟨_,e,_⟩ := h1; exact ne e
 have n5 : s.heap.objs.size ≠ i2 := by obtain ⟨_,e,_⟩ := h2; exact ne e
 have n6 : s.heap.objs.size ≠ l1 := by obtain ⟨_,e,_⟩ := hl1; exact ne e
 have n7 : s.heap.objs.size ≠ l2 := by obtain ⟨_,e,_⟩ := hl2; exact ne e
 have n3 : s.heap.objs.size ≠ TO := by obtain ⟨_,_,e⟩ := hTO; exact ne e
 refine callType_codes (Q₁ := fun obj s₁ => obj = .ref s.heap.objs.size /\ s₁ = { s with heap := s.heap.push { cls := .type "list",data := .seq #[] } }) F.called_list (F.typeCall_list_1 _) F.entry_list_init (code_list_new _ ⟨rfl,rfl⟩) fun obj s₁ h₁ => ?_
 obtain ⟨rfl,rfl⟩ := h₁
 have gS : (s.heap.push { cls := .type "list",data := .seq #[] }).get? s.heap.objs.size = some { cls := .type "list",data := .seq #[] } := (Heap.get?_push_size _ rfl)
 refine ⟨⟨_,gS,rfl⟩,F.args_list_init_2 _ _,init_zip (lo := s.heap.objs.size) hh D (ne hz) (ne hTI) n3 n4 n5 n6 n7 hb (up _ _ hz) ⟨up _ _ hTI,h1.at fun o e => up _ o e,h2.at fun o e => up _ o e,hl1.at fun o e => up _ o e,hl2.at fun o e => up _ o e,.inl ⟨rfl,up _ _ hz⟩,?_,rfl,List.Pairwise.nil,by rw [Heap.size_push]; exact Nat.le_succ _,fun j T e => by simp at e⟩ gS fun h' Ts' c' fin kk hS' => ?_⟩
 . obtain ⟨a,b,e⟩ := hTO
   exact ⟨a,b,up _ _ e⟩
 . exact ⟨rfl,hQ h' Ts' c' fin (fun b o c1 c2 c3 c4 c5 e => kk b o c1 c2 c3 c4 c5 (up b o e)) hS'⟩
end
end L2
namespace L2
open PySem PySem.Spec PyProof.Rows
def ovr (H N : Hp) : Hp := fun a => (N a).or (H a)
section
variable {X : Cx} {pins : List (Addr × Obj)} {σ : St} {H N : Hp} {s : Shared} {h' : Heap}
theorem Inv.many {t' : Nat} (I : Inv X pins σ H s) (k : ∀ b u,s.heap.get? b = some u -> h'.get? b = some u) (hp : ∀ a o,N a = some o -> s.heap.objs.size <= a) (new : ∀ a o,N a = some o -> ObjOk X.prog X.w (ovr H N) h' a o) :
   Inv X pins σ (ovr H N) { s with heap := h',toks := t' } := by
 have old : ∀ a o,H a = some o -> ovr H N a = some o := fun a o e => by
   unfold ovr
   cases q : N a with
   | none => simpa using e
   | some u => exact absurd (Nat.lt_of_lt_of_le (I.hok.lt e) (hp a u q)) (Nat.lt_irrefl _)
 have frees : ∀ b u,s.heap.get? b = some u -> H b = none -> ovr H N b = none := fun b u q n => by
   unfold ovr
   cases z : N b with
   | none => simpa using n
   | some v => exact absurd (Nat.lt_of_lt_of_le (Heap.lt_size q) (hp b v z)) (Nat.lt_irrefl _)
 refine I.un ⟨fun b u q _ _ _ => k b u q,fun b u q _ _ _ => ⟨u.slots,k b u q⟩,fun b u q n _ => frees b u q n,fun b u q _ => ⟨u,k b u q⟩,fun b xs q => old b _ q,fun b o u q => old b _ q,fun b ps q => ⟨#[],by rw [old b _ q]; simp⟩⟩ fun a o e => ?_
 cases q : N a with
 | some u =>
   have : ovr H N a = some u := by unfold ovr; rw [q]; rfl
   rw [this] at e; cases e
   exact new a _ q
 | none =>
   have : ovr H N a = H a := by unfold ovr; rw [q]; rfl
   rw [this] at e
   exact (I.hok a o e).stay (fun c v _ z => k c v z) (fun c z => old c _ z) fun c xs z => old c _ z
end
theorem lookup_up {β : Type} : ∀ (P : List (Addr × β)),(P.map (·.1)).Pairwise (· < ·) -> ∀ a b,(a,b) ∈ P -> P.lookup a = some b
 | [],_,_,_,h => by cases h
 | (c,d) :: P,hp,a,b,h => by
   rw [List.map_cons,List.pairwise_cons] at hp
   rcases List.mem_cons.mp h with e | e
   . cases e; simp [List.lookup]
   . have lt : c < a := hp.1 a (List.mem_map_of_mem (f := Prod.fst) e)
     have : (a == c) = false := by simpa using Nat.ne_of_gt lt
     rw [List.lookup_cons,this]
     exact lookup_up P hp.2 a b e
theorem lookup_in {β : Type} : ∀ (P : List (Addr × β)) (a : Addr) (b : β),P.lookup a = some b -> (a,b) ∈ P
 | [],_,_,h => by cases h
 | (c,d) :: P,a,b,h => by
   rw [List.lookup_cons] at h
   cases q : (a == c) with
   | true =>
     rw [q] at h
     have e : a = c := by simpa using q
     have e2 : d = b := by simpa using h
     subst e e2
     exact List.mem_cons_self ..
   | false =>
     rw [q] at h
     exact List.mem_cons_of_mem _ (lookup_in P a b (by simpa using h))
theorem vals_refs : ∀ Ts : List Addr,Vals (Ts.map V.ref) (Ts.map Value.ref)
 | [] => .nil
 | _ :: t => .cons rfl (vals_refs t)
def zN (S : Addr) (P : List (Addr × V × V)) : Hp := fun a => if a = S then some (.lst (P.map fun q => .ref q.1)) else (P.lookup a).map fun q => .tup [q.1,q.2]
def tListZip (K : PySem.W.Frag) (ta : TA) : TE := fun σ H Q => ta σ H fun vs H1 => ∃ l1 l2 xs ys,vs = [.ref l1,.ref l2] /\ SqL K H1 l1 xs /\ SqL K H1 l2 ys /\
 ∀ (S : Addr) (P : List (Addr × V × V)) (H2 : Hp),H1 S = none -> Same H1 H2 -> P.map (·.2) = xs.zip ys -> H2 S = some (.lst (P.map fun q => .ref q.1)) -> (∀ q ∈ P,H2 q.1 = some (.tup [q.2.1,q.2.2])) -> Q (.ref S) H2
theorem pe_listzip {X : Cx} {a b : Expr} {ta : TA} {p p2 pos pos2 : Pos} (hc : X.calm = true) (hgl : Gl X "list") (hml : X.mg "list" = none) (hg : Gl X "zip") (hm : X.mg "zip" = none) (ha : PA X [a,b] ta)
   (hs : starEach [a,b] X.env = [(false,eval a X.env),(false,eval b X.env)] := by rfl) (hs2 : starEach [b] X.env = [(false,eval b X.env)] := by rfl)
   (hs3 : starEach [.Call (.Name "zip" p2) [a,b] [] pos2] X.env = [(false,eval (.Call (.Name "zip" p2) [a,b] [] pos2) X.env)] := by rfl) :
   PE X (.Call (.Name "list" p) [.Call (.Name "zip" p2) [a,b] [] pos2] [] pos) (tListZip X.K ta) := by
 intro pins s σ H Q I h
 refine Call_ (ld_blt I hgl hml (show bootBuiltins "list" = some (.type "list") by decide +kernel) (PyProof.Rows.callWith_type1 ?_ (by rw [hs3]; rfl) rfl))
 rw [hs3]
 show wpAny _ _ (spliced ((false,eval (.Call (.Name "zip" p2) [a,b] [] pos2) X.env) :: [])) _ _ s
 refine Calls.spliced_cons ?_
 refine Call_ (ld_blt I hg hm (show bootBuiltins "zip" = some (.type "zip") by decide +kernel) (PyProof.Rows.callWith_type1 (thn (ha pos2 pins s σ H _ I h) fun us s1 ⟨vs,H1,I1,r1,q1⟩ => ?_) (by rw [hs,hs2]) (by rw [hs2]; rfl)))
 obtain ⟨l1,l2,xs,ys,e,hq1,hq2,q⟩ := q1
 subst e
 obtain ⟨u,u',rfl,r,r'⟩ := vals2 r1
 cases (show u = Value.ref l1 from r)
 cases (show u' = Value.ref l2 from r')
 obtain ⟨its1,rv1,pl1,z1⟩ := I1.list hq1
 obtain ⟨its2,rv2,pl2,z2⟩ := I1.list hq2
 have a1 : l1 < s1.heap.objs.size := by obtain ⟨_,e,_⟩ := pl1.isList; exact Heap.lt_size e
 have a2 : l2 < s1.heap.objs.size := by obtain ⟨_,e,_⟩ := pl2.isList; exact Heap.lt_size e
 have e1 := rv1.length
 have e2 := rv2.length
 refine call_zip_2 pl1.isList pl2.isList fun h1 hz hTI hTO hi1 hi2 hsz hk => Calls.spliced_nil ?_
 have D := zipApart_new a1 a2
 refine list_zip (I1.ok.hd hc) D (by simp only [List.size_toArray]; omega) hz hTI ⟨_,_,hTO⟩ hi1 hi2 (pl1.isList.at fun o e => hk _ o e) (pl2.isList.at fun o e => hk _ o e) fun h2 Ts c fin kk hS => ?_
 obtain ⟨hn,up,items⟩ := fin
 have hsz' : s1.heap.objs.size <= h1.objs.size := by rw [hsz]; exact Nat.le_add_right _ _
 have hk2 : ∀ b o,s1.heap.get? b = some o -> h2.get? b = some o := fun b o e => by
   have lt : b < s1.heap.objs.size := Heap.lt_size e
   refine kk b o (Nat.ne_of_lt (Nat.lt_of_lt_of_le lt hsz')) ?_ ?_ ?_ ?_ (hk b o e)
   . exact Nat.ne_of_lt (Nat.lt_of_lt_of_le lt (Nat.le_add_right _ 4))
   . exact Nat.ne_of_lt (Nat.lt_of_lt_of_le lt (Nat.le_add_right _ 3))
   . exact Nat.ne_of_lt lt
   . exact Nat.ne_of_lt (Nat.lt_of_lt_of_le lt (Nat.le_add_right _ 1))
 have hn' : Ts.length = min xs.length ys.length := by rw [hn]; simp only [List.size_toArray]; omega
 obtain ⟨P,eP⟩ : ∃ P,P = Ts.zip (xs.zip ys) := ⟨_,rfl⟩
 have P1 : P.map (·.1) = Ts := by rw [eP]; exact List.map_fst_zip (by rw [List.length_zip,hn']; exact Nat.le_refl _)
 have P2 : P.map (·.2) = xs.zip ys := by rw [eP]; exact List.map_snd_zip (by rw [List.length_zip,hn']; exact Nat.le_refl _)
 have Pref : P.map (fun q => V.ref q.1) = Ts.map V.ref := by rw [<- P1,List.map_map]; rfl
 have inP : ∀ q ∈ P,∃ x y,IsPair h2 q.1 x y /\ RelV q.2.1 x /\ RelV q.2.2 y /\ h1.objs.size <= q.1 /\ q.1 ≠ h1.objs.size := fun q hq => by
   obtain ⟨j,ej⟩ := List.mem_iff_getElem?.mp hq
   rw [eP,List.getElem?_zip_eq_some] at ej
   obtain ⟨ej1,ej2⟩ := ej
   rw [List.getElem?_zip_eq_some] at ej2
   obtain ⟨x,y,b1,b2,b3,b4,b5⟩ := items j _ ej1
   obtain ⟨v1,c1,c2⟩ := rv1.get ej2.1
   obtain ⟨v2,c3,c4⟩ := rv2.get ej2.2
   have d1 : its1[j]? = some x := by simpa using b1
   have d2 : its2[j]? = some y := by simpa using b2
   rw [d1] at c1; cases c1
   rw [d2] at c3; cases c3
   exact ⟨x,y,b3,c2,c4,b4,b5⟩
 have I2 : Inv X pins σ (ovr H1 (zN h1.objs.size P)) { s1 with heap := h2 } := by
   refine I1.many (t' := s1.toks) hk2 (fun a o e => ?_) fun a o e => ?_
   . unfold zN at e
     split at e
     . next z => rw [z]; exact hsz'
     . obtain ⟨q,lq,_⟩ := Option.map_eq_some_iff.mp e
       obtain ⟨_,_,_,_,_,le,_⟩ := inP _ (lookup_in _ _ _ lq)
       exact Nat.le_trans hsz' le
   . unfold zN at e
     split at e
     . next z =>
       cases e
       subst z
       refine ⟨by rw [List.length_map,<- List.length_map (f := (·.1)),P1,hn']; omega,Ts.map Value.ref,c,?_,hS⟩
       rw [Pref]
       exact vals_refs Ts
     . obtain ⟨q,lq,rfl⟩ := Option.map_eq_some_iff.mp e
       obtain ⟨x,y,b1,b2,b3,_,_⟩ := inP _ (lookup_in _ _ _ lq)
       exact ⟨by show 2 <= sizeLine; rw [sizeLine_eq]; decide,[x,y],.cons b2 (.cons b3 .nil),⟨_,b1,rfl,_,rfl⟩⟩
 have fr : ∀ a,s1.heap.objs.size <= a -> H1 a = none := fun a ha => I1.hok.fresh ha
 refine ⟨.ref h1.objs.size,_,I2,rfl,q h1.objs.size P _ (fr _ hsz') (fun b o e => ?_) P2 ?_ fun q2 hq2 => ?_⟩
 . show (zN h1.objs.size P b).or (H1 b) = some o
   cases z : zN h1.objs.size P b with
   | none => simpa using e
   | some u =>
     exfalso
     have : s1.heap.objs.size <= b := by
       unfold zN at z
       split at z
       . next z' => rw [z']; exact hsz'
       . obtain ⟨q,lq,_⟩ := Option.map_eq_some_iff.mp z
         obtain ⟨_,_,_,_,_,le,_⟩ := inP _ (lookup_in _ _ _ lq)
         exact Nat.le_trans hsz' le
     rw [fr b this] at e; cases e
 . show (zN h1.objs.size P h1.objs.size).or _ = _
   unfold zN
   rw [if_pos rfl]; rfl
 . show (zN h1.objs.size P q2.1).or _ = _
   obtain ⟨_,_,_,_,_,_,ne⟩ := inP _ hq2
   unfold zN
   rw [if_neg ne,lookup_up P (by rw [P1]; exact up) q2.1 q2.2 hq2]; rfl
end L2
namespace L2
open PySem PySem.Spec PyProof.Rows
section
variable {X : Cx} {elt kx vx tg iter : Expr} {ifs : List Expr} {scope scX : Scope} {pos : Pos} {own cap : List Str} {ix : List Nat} {wi : TI} {g : BI -> TG} {tt : BI -> TT} {tk tv : BI -> TE}
theorem codeD1 : CodeC X (.DictComp kx vx [⟨tg,iter,ifs,0⟩] scope pos) 0 iter.pos tg ifs (tailD kx vx) where
 hq := fun _ _ _ => rfl
 hden := fun it D env Q E s h => by
   show wpAny _ X.A ((compTurn (.DictComp kx vx [⟨tg,iter,ifs,0⟩] scope pos) 0 (.ref it) (.ref D) env).onRaise (fun x => do noteFrame x env; theTreesLotGoes x)) _ _ s
   exact wpAny_noted h
 hst := fun it D env R s h0 h => startC rfl rfl rfl (fun _ => rfl) rfl rfl h0 h
abbrev tCompD1 (own : List Str) (ix : List Nat) (wi : TI) (g : BI -> TG) (tt : BI -> TT) (tk tv : BI -> TE) : TE := tCompG own ix (.dK []) wi g tt fun b D => aDictK D (tk b) (tv b)
theorem pe_compD1 (hc : X.calm = true) (hX : X.env.scope = scX) (S : BlkS scX scope X.N own cap ix) (hi : PI X tg iter wi) (hg : ∀ b,PG (blk X scope (own ++ cap) b) tg (g b)) (ht : ∀ b,PIf (blk X scope (own ++ cap) b) ifs (tt b))
   (hk : ∀ b,PE (blk X scope (own ++ cap) b) kx (tk b)) (hv : ∀ b,PE (blk X scope (own ++ cap) b) vx (tv b)) (hs : ∀ x,foldedSetIterable iter X.env x = pure x := by intro _; rfl) :
   PE X (.DictComp kx vx [⟨tg,iter,ifs,0⟩] scope pos) (tCompD1 own ix wi g tt tk tv) := by
 intro pins s σ H Q I h
 show wpAny _ X.A (comprehension (.DictComp kx vx [⟨tg,iter,ifs,0⟩] scope pos) scope X.env _ newDict false (eval iter X.env)) _ _ s
 refine comp_enterG (use := none) rfl codeD1 (fun _ _ _ _ _ _ => new_dict) hc hX S hi hg ht (fun b D => pact_dict (fun _ _ f => f) (hk b) (hv b)) hs I h fun D C H' s' q hn _ hI => ?_
 obtain ⟨m,hn⟩ := hn
 exact ⟨m,hn,fun h' hh => ⟨.ref D,H',hI h' hh,rfl,q⟩⟩
end
end L2
namespace L2
open PySem PySem.Spec PyProof.Rows
theorem mro_dict0 : mroOf (.type "dict") = pure [.type "dict",.type "object"] := by rw [mroOf_type]; kernel_rfl
theorem lookup_dict_new : typeLookup (.type "dict") "__new__" = pure (some (.builtin "dict.__new__")) := by rw [typeLookup_type,builtinLookup_eq_fast]; kernel_rfl
theorem called_dict : TypeCalled "dict" "dict.__new__" "dict.__init__" :=
 ⟨by decide +kernel,by decide +kernel,⟨_,_,mro_dict0⟩,madeBy_type mro_dict0 lookup_dict_new (by decide +kernel),by decide +kernel,by rw [isSubtype_type]; kernel_rfl,PySem.F.slot_dict_init⟩
theorem typeCall_dict_1 (a : Value) : checkTypeCall "dict" ⟨[a],[]⟩ = pure () := by kernel_rfl
theorem newCall_dict_1 (a : Value) : checkBuiltinCall "dict.__new__" ⟨[.type "dict",a],[]⟩ = pure () := by kernel_rfl
theorem entry_dict_new : entryFor table "dict.__new__" = some Builtin.«dict.__new__» := entryFor_of_tree (by kernel_rfl)
theorem plain_dict_new : plainId "dict.__new__" = true := by decide +kernel
theorem entry_dict_upl : entryFor table "dict.update.loop" = some Builtin.«dict.update.loop» := entryFor_of_tree (by kernel_rfl)
theorem plain_dict_upl : plainId "dict.update.loop" = true := by decide +kernel
theorem sub_dict_self : isSubtype (.type "dict") (.type "dict") = pure true := by rw [isSubtype_type]; kernel_rfl
section
variable {prog : Program} {w : World} {A : Around} {E : Value -> Shared -> Prop} {s : Shared}
theorem code_dict_new (a : Value) {Q₁ : Value -> Shared -> Prop}
   (h : Q₁ (.ref s.heap.objs.size) { s with heap := s.heap.push { cls := .type "dict",data := .dict #[] } }) :
   codeAny (model prog w) A (.call (.builtin "dict.__new__") ⟨[.type "dict",a],[]⟩) (wants Q₁ E) s := by
 refine codeAny_of_tree ?_
 show wpAny _ A.in1 (do checkBuiltinCall "dict.__new__" ⟨[.type "dict",a],[]⟩; again (.builtin "dict.__new__" ⟨[.type "dict",a],[]⟩)) _ _ s
 refine wpAny_bind (wpAny_of_eq (newCall_dict_1 a) (wpAny_pure ⟨plainId_quiet plain_dict_new _,codeAny_builtin entry_dict_new ?_⟩))
 rw [Around.under_plainId plain_dict_new _]
 have hsub := sub_dict_self
 have hmro := mro_dict0
 have hty : ∀ s : Shared,s.TypeIs (.type "dict") "type" := fun _ => rfl
 obtain ⟨hp,g,d,tk,os⟩ := s
 unfold Builtin.«dict.__new__»
 repeat (any_goals (first | assumption | wp_step))
theorem list_nokeys : typeLookup (.type "list") "keys" = pure none := by rw [typeLookup_type,builtinLookup_eq_fast]; kernel_rfl
set_option maxRecDepth 8000 in
theorem no_keys {a : Addr} {o : Obj} {xs : Array Value} {k : Nat} {Q : Option Value -> Shared -> Prop}
   (hx : s.heap.get? a = some o) (hc : o.cls = .type "list") (hdat : o.data = .seq xs k) (hd : o.dict = none) (hA : A.handled = none)
   (h : ∀ h' tk e,Heap.NewExcOf s.heap h' e "AttributeError" -> Q none { s with heap := h',toks := tk }) :
   wpAny (model prog w) A (getAttr? (.ref a) "keys") Q E s := by
 obtain ⟨c,dct,dat,sl⟩ := o
 simp only at hc hdat hd
 subst hc hdat hd
 obtain ⟨hp,g,d,tk,os⟩ := s
 have hT : ∀ tk',(⟨hp,g,d,tk',os⟩ : Shared).TypeIs (.ref a) "list" := fun _ => ⟨_,hx,rfl⟩
 have f1 := sub_AttributeError
 have f3 := F.slot_list_getattribute.lookup
 have f4 := F.slot_list_getattribute.bind (.ref a)
 have f5 := am_list_getattr_none
 unfold getAttr? getAttrBy? getAttrBy
 repeat (any_goals (first | assumption | exact hT _ | ((with_reducible show wpAny _ _ (call (Value.builtin "list.__getattribute__") _ _) _ _ _); refine call_meets F.slot_list_getattribute (hT _) am_entry_list_getattribute (F.args_list_getattribute_2 _ _) (meets_getattribute_miss_list a xs k sl "keys" _ list_nokeys (by decide +kernel) (by size_fits)) ⟨hx,hA,fun h' tk' e hx' => ?_⟩) | wp_step))
 obtain ⟨t',u',he⟩ := hx'.there
 show wpAny _ _ (getattributeRaised _ _ _ _ _ _ _) _ _ _
 unfold getattributeRaised
 repeat (any_goals (first | assumption | wp_step))
 exact h _ _ _ hx'.of
end
end L2
namespace L2
open PySem PySem.Spec PyProof.Rows
section
variable {prog : Program} {w : World} {A : Around} {E : Value -> Shared -> Prop} {s : Shared}
theorem IsTup.pairItems {T : Addr} {x y : Value} {Q : List Value -> Shared -> Prop} (h : IsTup s.heap T #[x,y]) (q : Q [x,y] s) : wpAny (model prog w) A (Builtin.Dict.pairItems (.ref T)) Q E s := by
 obtain ⟨o,e,c,n,d⟩ := h
 unfold Builtin.Dict.pairItems
 refine wpAny_bind (wpAny_typeOf (T := "tuple") ⟨o,e,c⟩ ?_)
 rw [if_pos (by decide)]
 exact wpAny_bind (wpAny_seqItems e d (wpAny_pure q))
variable {K : Type} [DecidableEq K] (knd : KeyKind prog w K)
theorem dloop {R : Result -> Shared -> Prop} {d it l : Addr} {items : Array Value} {kvs : List (K × Value)} (hh : A.in1.handled = none) (n1 : d ≠ it) (n2 : d ≠ l) (n3 : it ≠ l) (hb : kvs.length <= sizeLine) (hn : items.size = kvs.length) :
   ∀ (k i : Nat) (s : Shared),kvs.length - i = k -> i <= kvs.length -> s.heap.DictOf knd d (merged [] (kvs.take i)) -> s.heap.IsListIter it l i -> s.heap.IsList l items ->
   (∀ (j : Nat) (kv : K × Value),kvs[j]? = some kv -> ∃ T key,items[j]? = some (.ref T) /\ IsTup s.heap T #[key,kv.2] /\ knd.is kv.1 key = true /\ T ≠ d /\ T ≠ it) ->
   (∀ (h' : Heap) (tk : Nat),h'.DictOf knd d (merged [] kvs) -> (∀ b o,b ≠ d -> b ≠ it -> s.heap.get? b = some o -> h'.get? b = some o) -> R (.ok (.ret .none)) { s with heap := h',toks := tk }) ->
   codeAny (model prog w) A (.builtin "dict.update.loop" ⟨[.ref d,.ref it,rawInt i,.none],[]⟩) R s := by
 intro k
 induction k with
 | zero =>
   intro i s hk hi hd hit hl ht hR
   have hin : i = kvs.length := by omega
   refine codeAny_builtin entry_dict_upl ?_
   rw [Around.under_plainId plain_dict_upl _]
   show wpAny _ A.in1 (pyNext (.ref it) >>= _) _ _ s
   refine wpAny_bind (wpAny_pyNext_list_end hh hit hl (Array.getElem?_eq_none (by omega)) fun h' eb => ?_)
   show wpAny _ A.in1 (Builtin.Dict.addKeywords d [] >>= fun _ => ret Value.none) _ _ _
   refine wpAny_bind (wpAny_pure (wpAny_pure (hR h' s.toks ?_ fun b o _ b2 e => eb b o b2 e)))
   rw [hin,List.take_length] at hd
   obtain ⟨o,es,ep,ho,r⟩ := hd
   exact ⟨o,es,ep,eb _ _ n1 ho,r⟩
 | succ k ih =>
   intro i s hk hi hd hit hl ht hR
   have hlt : i < kvs.length := by omega
   obtain ⟨kv,hkv⟩ : ∃ kv,kvs[i]? = some kv := ⟨kvs[i],List.getElem?_eq_getElem hlt⟩
   obtain ⟨T,key,hx,hT,hkey,t1,t2⟩ := ht i kv hkv
   refine codeAny_builtin entry_dict_upl ?_
   rw [Around.under_plainId plain_dict_upl _]
   show wpAny _ A.in1 (pyNext (.ref it) >>= _) _ _ s
   refine wpAny_bind (wpAny_pyNext_list_item hit hl hx fun h' g1 sb => ?_)
   have hT' : IsTup h' T #[key,kv.2] := by obtain ⟨o,e,r⟩ := hT; exact ⟨o,(sb.2 T t2).trans e,r⟩
   have hd' : h'.DictOf knd d (merged [] (kvs.take i)) := by obtain ⟨o,es,ep,ho,r⟩ := hd; exact ⟨o,es,ep,(sb.2 d n1).trans ho,r⟩
   refine wpAny_bind (wpAny_holding (wpAny_bind (wpAny_tryCatch (IsTup.pairItems hT' ?_))))
   show wpAny _ A.in1 (holding [key,kv.2] (dictSet d key kv.2)) _ _ _
   refine wpAny_holding ?_
   unfold dictSet
   refine wpAny_holding (wpAny_bind (knd.pyHash hkey ?_))
   have hlm : (merged [] (kvs.take i)).length <= sizeLine := by
     have z := merged_length_le ([] : List (K × Value)) (kvs.take i)
     rw [List.length_nil,List.length_take] at z
     omega
   refine wpAny_dictSetHashed_pairs (s := { s with heap := h',toks := s.toks + 1 }) (hsz := hlm) hkey hd' fun h2 hd2 sb2 => ?_
   show wpAny _ A.in1 (again (.builtin "dict.update.loop" ⟨[.ref d,.ref it,rawInt ((i : Int) + 1),.none],[]⟩)) _ _ _
   have kk : ∀ b o,b ≠ d -> b ≠ it -> s.heap.get? b = some o -> h2.get? b = some o := fun b o b1 b2 e => (sb2.2 b b1).trans ((sb.2 b b2).trans e)
   refine wpAny_pure ⟨plainId_quiet plain_dict_upl _,ih (i + 1) _ (by omega) hlt (by rw [merged_take_succ [] kvs i kv hkv]; exact hd2) (g1.at fun o e => (sb2.2 it (Ne.symm n1)).trans e) (hl.at fun o e => kk _ o (Ne.symm n2) (Ne.symm n3) e) (fun j kv2 hj => ?_) fun h3 tk hd3 k3 => ?_⟩
   . obtain ⟨T2,key2,a1,⟨o,a2,a2'⟩,a3,a4,a5⟩ := ht j kv2 hj
     exact ⟨T2,key2,a1,⟨o,kk _ _ a4 a5 a2,a2'⟩,a3,a4,a5⟩
   . exact hR h3 tk hd3 fun b o b1 b2 e => k3 b o b1 b2 (kk b o b1 b2 e)
end
section
variable {X : Cx}
theorem call_dictD : CallR X (.type "dict") (fun xs H Q => ∃ b more,xs = [.ref b] /\ Rd H b (.dK more) /\ ∀ d,H d = none -> Q (.ref d) (upd H d (.dK more))) := by
 intro pins s σ H xs us Q I r h
 obtain ⟨b,more,rfl,hb,q⟩ := h
 obtain ⟨u,rfl,ru⟩ := vals1 r
 cases ru
 obtain ⟨z2,d2,vs,rel,dd⟩ := dk_rd I.hok hb
 have lb : b < s.heap.objs.size := by obtain ⟨o,_,_,e,_⟩ := dd; exact Heap.lt_size e
 refine callType_codes (Q₁ := fun obj s₁ => obj = .ref s.heap.objs.size /\ s₁ = { s with heap := s.heap.push { cls := .type "dict",data := .dict #[] } }) called_dict (typeCall_dict_1 _) PySem.F.entry_dict_init (code_dict_new _ ⟨rfl,rfl⟩) fun obj s₁ h₁ => ?_
 obtain ⟨rfl,rfl⟩ := h₁
 have up : ∀ c o,s.heap.get? c = some o -> (s.heap.push { cls := .type "dict",data := .dict #[] }).get? c = some o := fun c o e => Heap.get?_push_of_some _ e
 have dS : (s.heap.push { cls := .type "dict",data := .dict #[] }).DictOf (mixKind X.prog X.w) s.heap.objs.size [] := Heap.DictOf.new _
 have dd' : (s.heap.push { cls := .type "dict",data := .dict #[] }).DictOf (mixKind X.prog X.w) b vs := dd.keep up
 refine ⟨⟨_,Heap.get?_push_size _ rfl,rfl⟩,PySem.F.args_dict_init_2 _ _,?_⟩
 unfold Builtin.«dict.__init__»
 refine wpAny_bind ?_
 unfold Builtin.Dict.selfAndRest
 refine wpAny_bind (wpAny_notOrdered_dict (Heap.DictOf.typeIs (s := { s with heap := s.heap.push { cls := .type "dict",data := .dict #[] } }) dS) ?_)
 refine wpAny_pure ?_
 show wpAny _ _ (Builtin.Dict.updateFrom "dict.__init__" s.heap.objs.size (.ref b) [] .none) _ _ _
 unfold Builtin.Dict.updateFrom
 have ty : Shared.TypeIs { s with heap := s.heap.push { cls := .type "dict",data := .dict #[] } } (.ref b) "dict" := Heap.DictOf.typeIs (s := { s with heap := s.heap.push { cls := .type "dict",data := .dict #[] } }) dd'
 refine wpAny_bind (wpAny_typeOf ty ?_)
 rw [if_neg (by decide)]
 refine wpAny_bind ?_
 unfold Builtin.Dict.merge
 refine wpAny_bind ?_
 unfold Builtin.Dict.readDirectly
 refine wpAny_bind (wpAny_isInstance ty isSubtype_dict_dict ?_)
 simp only [Bool.not_true,Bool.false_eq_true,if_false]
 refine wpAny_bind (wpAny_specialOf ty PySem.F.slot_dict_iter.lookup (wpAny_pure ?_))
 simp only [beq_self_eq_true,if_true]
 refine wpAny_bind (wpAny_pure ?_)
 refine wpAny_mergeDict (s := { s with heap := s.heap.push { cls := .type "dict",data := .dict #[] } }) (hsz := by rw [List.length_nil,<- rel.length]; omega) (Nat.ne_of_gt lb) d2 dS dd' fun h' hd' ho' hs' => ?_
 show wpAny _ _ (Builtin.Dict.addKeywords s.heap.objs.size [] >>= _) _ _ _
 refine wpAny_bind (wpAny_pure (wpAny_pure ⟨rfl,?_⟩))
 have nd : (vs.map (·.1)).Nodup := by obtain ⟨_,_,_,_,_,_,_,_,n⟩ := dd; exact n
 rw [merged_nil_of_nodup vs nd] at hd'
 have kk : ∀ c o,s.heap.get? c = some o -> h'.get? c = some o := fun c o e => (hs'.2 c (Nat.ne_of_lt (Heap.lt_size e))).trans (up c o e)
 refine ⟨.ref s.heap.objs.size,_,I.laid (t' := s.toks) kk (Nat.le_refl _) (dk_new z2 (beq_eq_false_iff_ne.mpr (Ne.symm (Nat.ne_of_lt I.big))) rel hd'),rfl,q _ (I.hok.fresh (Nat.le_refl _))⟩
theorem pairs_vs {P : Program} {w : World} {H : Hp} {h : Heap} (ok : HOk P w H h) : ∀ (ps : List (Addr × Key × V)) (its : List Value),Vals (ps.map fun p => V.ref p.1) its -> (∀ p ∈ ps,H p.1 = some (.tup [kV p.2.1,p.2.2])) ->
   ∃ vs : List (Key × Value),KV (ps.map (·.2)) vs /\ ∀ (j : Nat) (kv : Key × Value),vs[j]? = some kv -> ∃ T key,its[j]? = some (.ref T) /\ IsTup h T #[key,kv.2] /\ (mixKind P w).is kv.1 key = true
 | [],_,.nil,_ => ⟨[],.nil,fun j kv e => by simp at e⟩
 | p :: ps,u :: us,.cons ru rv,hp => by
   obtain ⟨vs,r,hv⟩ := pairs_vs ok ps us rv fun q hq => hp q (List.mem_cons_of_mem _ hq)
   cases (show u = Value.ref p.1 from ru)
   obtain ⟨_,its,r2,ob⟩ := (show ObjOk P w H h p.1 (.tup [kV p.2.1,p.2.2]) from ok _ _ (hp p List.mem_cons_self))
   obtain ⟨k,v,rfl,rk,rw⟩ := vals2 r2
   refine ⟨(p.2.1,v) :: vs,.cons ⟨rfl,rw⟩ r,fun j kv e => ?_⟩
   cases j with
   | zero =>
     cases (show some (p.2.1,v) = some kv from e)
     exact ⟨p.1,k,rfl,ob,kV_is rk⟩
   | succ j => exact hv j kv (by simpa using e)
theorem call_dictL (hc : X.calm = true) : CallR X (.type "dict") (fun xs H Q => ∃ (l : Addr) (ps : List (Addr × Key × V)),xs = [.ref l] /\ H l = some (.lst (ps.map fun p => .ref p.1)) /\ (∀ p ∈ ps,H p.1 = some (.tup [kV p.2.1,p.2.2])) /\ ∀ d,H d = none -> Q (.ref d) (upd H d (.dK (mergeK [] (ps.map (·.2)))))) := by
 intro pins s σ H xs us Q I r h
 obtain ⟨l,ps,rfl,hl,hp,q⟩ := h
 obtain ⟨u,rfl,ru⟩ := vals1 r
 cases ru
 obtain ⟨zl,its,n,rv,ln,el⟩ := I.lstM hl
 obtain ⟨vs,rel,hv⟩ := pairs_vs I.hok ps its rv hp
 have lvs : vs.length = its.length := by have z := rel.length; rw [List.length_map] at z; rw [List.length_map] at ln; omega
 rw [ln] at zl
 have ll : l < s.heap.objs.size := Heap.lt_size el
 refine callType_codes (Q₁ := fun obj s₁ => obj = .ref s.heap.objs.size /\ s₁ = { s with heap := s.heap.push { cls := .type "dict",data := .dict #[] } }) called_dict (typeCall_dict_1 _) PySem.F.entry_dict_init (code_dict_new _ ⟨rfl,rfl⟩) fun obj s₁ h₁ => ?_
 obtain ⟨rfl,rfl⟩ := h₁
 have up : ∀ c o,s.heap.get? c = some o -> (s.heap.push { cls := .type "dict",data := .dict #[] }).get? c = some o := fun c o e => Heap.get?_push_of_some _ e
 have dS : (s.heap.push { cls := .type "dict",data := .dict #[] }).DictOf (mixKind X.prog X.w) s.heap.objs.size [] := Heap.DictOf.new _
 refine ⟨⟨_,Heap.get?_push_size _ rfl,rfl⟩,PySem.F.args_dict_init_2 _ _,?_⟩
 unfold Builtin.«dict.__init__»
 refine wpAny_bind ?_
 unfold Builtin.Dict.selfAndRest
 refine wpAny_bind (wpAny_notOrdered_dict (Heap.DictOf.typeIs (s := { s with heap := s.heap.push { cls := .type "dict",data := .dict #[] } }) dS) ?_)
 refine wpAny_pure ?_
 show wpAny _ _ (Builtin.Dict.updateFrom "dict.__init__" s.heap.objs.size (.ref l) [] .none) _ _ _
 unfold Builtin.Dict.updateFrom
 refine wpAny_bind (wpAny_typeOf (T := "list") ⟨_,up _ _ el,rfl⟩ ?_)
 rw [if_pos (by decide)]
 refine wpAny_bind (no_keys (A := X.A.in1.in1) (up _ _ el) rfl rfl rfl (I.ok.hd hc) fun h1 tk e ne => ?_)
 rw [if_pos (show (none : Option Value).isNone = true from rfl)]
 refine wpAny_bind (wpAny_rule ?_)
 have k1 : ∀ c o,s.heap.get? c = some o -> h1.get? c = some o := fun c o q => ne.keeps c o (up c o q)
 have sz1 : s.heap.objs.size < h1.objs.size := by obtain ⟨o,_,_,e,_⟩ := dS; exact Heap.lt_size (ne.keeps _ _ e)
 have hl1 : h1.IsList l its.toArray := ⟨_,k1 _ _ el,rfl,n,rfl⟩
 refine wpAny_bind (wpAny_pyIter_list (s := { s with heap := h1,toks := tk }) hl1 ?_)
 have k2 : ∀ c o,h1.get? c = some o -> (h1.push { cls := .type "list_iterator",data := .fields #[.ref l,.int 0 0] }).get? c = some o := fun c o q => Heap.get?_push_of_some _ q
 refine wpAny_pure ⟨plainId_quiet plain_dict_upl _,?_⟩
 have dz : ∀ c,c < s.heap.objs.size -> c ≠ s.heap.objs.size /\ c ≠ h1.objs.size := fun c hc => ⟨Nat.ne_of_lt hc,Nat.ne_of_lt (Nat.lt_trans hc sz1)⟩
 refine dloop (A := X.A.in1) (mixKind X.prog X.w) (d := s.heap.objs.size) (it := h1.objs.size) (l := l) (items := its.toArray) (kvs := vs) (I.ok.hd hc) (Nat.ne_of_lt sz1) (Ne.symm (dz l ll).1) (Ne.symm (dz l ll).2) (by omega) (by simp only [List.size_toArray]; omega) _ 0 _ rfl (Nat.zero_le _)
   (by rw [List.take_zero]; exact (dS.keep ne.keeps).keep k2) ⟨_,Heap.get?_push_size _ rfl,rfl,rfl⟩ (hl1.at fun o q => k2 _ o q) (fun j kv hj => ?_) fun h3 tk3 hd3 k3 => ⟨rfl,?_⟩
 . obtain ⟨T,key,a1,⟨o,a2,a2'⟩,a3⟩ := hv j kv hj
   have lt := Heap.lt_size a2
   exact ⟨T,key,by simpa using a1,⟨o,k2 _ _ (k1 _ _ a2),a2'⟩,a3,(dz T lt).1,(dz T lt).2⟩
 . have kk : ∀ c o,s.heap.get? c = some o -> h3.get? c = some o := fun c o e => k3 c o (dz c (Heap.lt_size e)).1 (dz c (Heap.lt_size e)).2 (k2 _ _ (k1 _ _ e))
   have rm : KV (mergeK [] (ps.map (·.2))) (merged [] vs) := rel.merge .nil
   have zm : (mergeK [] (ps.map (·.2))).length <= sizeLine := by
     have z := length_mergeK (ps.map (·.2)) []
     rw [List.length_nil,List.length_map] at z
     rw [List.length_map] at ln
     omega
   exact ⟨.ref s.heap.objs.size,_,I.laid (t' := tk3) kk (Nat.le_refl _) (dk_new zm (beq_eq_false_iff_ne.mpr (Ne.symm (Nat.ne_of_lt I.big))) rm hd3),rfl,q _ (I.hok.fresh (Nat.le_refl _))⟩
end
end L2
namespace L2
open PySem PySem.Spec PyProof.Rows
def SameF (H H' : Hp) : Prop := ∀ b o,H b = some o -> H' b = some o ∨ ∃ kvs ob,o = .dK kvs /\ H' b = some (.frz ob o)
theorem SameF.of {H H' : Hp} (s : Same H H') : SameF H H' := fun b o e => .inl (s b o e)
theorem SameF.refl (H : Hp) : SameF H H := fun _ _ e => .inl e
theorem SameF.trans {H H1 H2 : Hp} (a : SameF H H1) (b : SameF H1 H2) : SameF H H2 := fun c o e => by
 rcases a c o e with q | ⟨kvs,ob,rfl,q⟩
 . exact b c o q
 . rcases b c _ q with z | ⟨_,_,z,_⟩
   . exact .inr ⟨kvs,ob,rfl,z⟩
   . cases z
theorem SameF.rd {H H' : Hp} (s : SameF H H') {a : Addr} {kvs : List (Key × V)} (h : Rd H a (.dK kvs)) : Rd H' a (.dK kvs) := by
 rcases h with h | ⟨o,h⟩
 . rcases s a _ h with q | ⟨_,ob,_,q⟩
   . exact .inl q
   . exact .inr ⟨ob,q⟩
 . rcases s a _ h with q | ⟨_,_,z,_⟩
   . exact .inr ⟨o,q⟩
   . cases z
theorem SameF.lst {H H' : Hp} (s : SameF H H') {a : Addr} {xs : List V} (h : H a = some (.lst xs)) : H' a = some (.lst xs) := by
 rcases s a _ h with q | ⟨_,_,z,_⟩
 . exact q
 . cases z
theorem SameF.frz {H H' : Hp} (s : SameF H H') {a : Addr} {o : Obj} {u : HO} (h : H a = some (.frz o u)) : H' a = some (.frz o u) := by
 rcases s a _ h with q | ⟨_,_,z,_⟩
 . exact q
 . cases z
def Itd (d : Addr) (o : Obj) (kvs : List (Key × V)) : It := ⟨fun i H => H d = some (.frz o (.dK kvs)) /\ i < kvs.length,fun i H v H' => H' = H /\ ∃ k x,kvs[i]? = some (k,x) /\ v = kV k,fun i H => H d = some (.frz o (.dK kvs)) /\ kvs.length <= i⟩
theorem rel_of_is {P : Program} {w : World} {k : Key} {u : Value} (h : (mixKind P w).is k u = true) : RelV (kV k) u := by
 rcases keyIs_shape (show keyIs k u = true from h) with ⟨j,t,e1,e2⟩ | ⟨x',t,e1,e2⟩ | ⟨e1,e2⟩
 . subst e1 e2; exact ⟨t,rfl⟩
 . subst e1 e2; exact ⟨t,rfl⟩
 . subst e1 e2; rfl
section
variable {X : Cx} {pins : List (Addr × Obj)} {σ : St} {H : Hp} {s : Shared}
theorem Inv.freeze {a : Addr} {kvs : List (Key × V)} (I : Inv X pins σ H s) (h : H a = some (.dK kvs)) : ∃ o,Inv X pins σ (upd H a (.frz o (.dK kvs))) s := by
 obtain ⟨z,d,vs,rel,o,es,ep,e,r⟩ := dk_of I.hok h
 exact ⟨o,I.write (t' := s.toks) (h' := s.heap) (e := a) (by rw [h]; exact True.intro) (.inl rfl) (fun b u _ q => q) ⟨o,e⟩ ⟨e,z,d,vs,rel,o,es,ep,e,r⟩⟩
theorem Inv.frz {a : Addr} {o : Obj} {kvs : List (Key × V)} (I : Inv X pins σ H s) (h : H a = some (.frz o (.dK kvs))) : ∃ vs es ep,KV kvs vs /\ (a == sysModules) = false /\ o.data = .dict es ep /\ s.heap.DictAt (mixKind X.prog X.w) a vs ep := by
 obtain ⟨e,z,d,vs,rel,o',es,ep,e',r⟩ := (show ObjOk X.prog X.w H s.heap a (.frz o (.dK kvs)) from I.hok a _ h)
 rw [e] at e'
 cases e'
 exact ⟨vs,es,ep,rel,d,r.2.1,o,es,e,r⟩
theorem turn_dict {P : Program} {w : World} {K : PySem.W.Frag} {tg : Expr} (d it : Addr) (o : Obj) (es : Array DictEntry) (ep : Nat) (kvs : List (Key × V)) (hd : o.data = .dict es ep) :
   Turn P w K tg (Itd d o kvs) [it] it (fun i h => h.IsKeyIter it d i kvs.length ep) where
 mem := by simp
 obj := fun i h st b hb => by
   have e : b = it := by simpa using hb
   subst e
   obtain ⟨o,e,c,dd⟩ := st
   exact ⟨o,e,fun v z => by rw [dd] at z; cases z⟩
 keep := fun i h h' st k => st.at fun o e => k it (by simp) o e
 item := by
   intro X hP hw hK hc i pins s σ H E I hf st hg
   subst hP hw hK
   obtain ⟨f0,f1,f2,f3,f4,f5⟩ := hf it (by simp)
   obtain ⟨hd',lt⟩ := hg
   obtain ⟨vs,es',ep',rel,_,dd,hat⟩ := I.frz hd'
   rw [hd] at dd
   cases dd
   have lv := rel.length
   obtain ⟨⟨k,x⟩,hx⟩ : ∃ p,vs[i]? = some p := ⟨vs[i]'(by omega),List.getElem?_eq_getElem _⟩
   have hk : ∃ y,kvs[i]? = some (k,y) := by
     have z := congrArg (fun l => l[i]?) rel.keys
     simp only [List.getElem?_map,hx,Option.map_some] at z
     obtain ⟨p,e1,e2⟩ := Option.map_eq_some_iff.mp z
     exact ⟨p.2,by rw [e1,<- e2]⟩
   obtain ⟨y,hy⟩ := hk
   refine wpAny_pyNext_dict_item (by rw [<- lv]; exact st) hat hx fun key h' hkey hit' hs' => ?_
   have I1 : Inv X pins σ H { s with heap := h',toks := s.toks } := I.turned (fun b o hb e => hs'.extBut b o hb e) f0 f1 f3 f4 f5
   rw [<- lv] at hit'
   obtain ⟨oi,ei,ci,di⟩ := id hit'
   exact ⟨_,rfl,go_of (s := { s with heap := h' }) (n := "dict_keyiterator") ei ci di (by decide) ⟨kV k,H,I1,rel_of_is hkey,⟨rfl,k,y,hy,rfl⟩,hit',fun b hb => (hf b hb).1⟩⟩
 done := by
   intro X hP hw hK hc i pins s σ H E I hf st hg
   subst hP hw hK
   obtain ⟨f0,f1,f2,f3,f4,f5⟩ := hf it (by simp)
   obtain ⟨hd',le⟩ := hg
   obtain ⟨vs,es',ep',rel,_,dd,hat⟩ := I.frz hd'
   rw [hd] at dd
   cases dd
   have lv := rel.length
   exact wpAny_pyNext_dict_end (I.ok.hd hc) (by rw [<- lv]; exact st) hat (List.getElem?_eq_none (by omega)) fun h' eb => ⟨rfl,I.turned (t' := s.toks) (fun b o hb e => eb b o hb e) f0 f1 f3 f4 f5⟩
 self := fun _ _ _ _ _ st h => wpAny_pyIter_keyiter st h
def iDict (tl : TE) : TI := fun σ H R => tl σ H fun x H1 => ∃ a kvs,x = .ref a /\ Rd H1 a (.dK kvs) /\ ∀ (o : Obj) (H2 : Hp),H2 a = some (.frz o (.dK kvs)) -> SameF H1 H2 -> (∀ b,b ≠ a -> H2 b = H1 b) -> R (Itd a o kvs) H2
theorem pi_dict {tg l : Expr} {tl : TE} (hl : PE X l tl) : PI X tg l (iDict tl) := by
 intro pins s σ H R I h
 refine thn (hl pins s σ H _ I h) fun v s1 ⟨x,H1,I1,r1,q1⟩ => ?_
 obtain ⟨a,kvs,e,hq,q⟩ := q1
 subst e
 cases r1
 obtain ⟨o,H2,I2,e2,sf,oth⟩ : ∃ o H2,Inv X pins σ H2 s1 /\ H2 a = some (.frz o (.dK kvs)) /\ SameF H1 H2 /\ ∀ b,b ≠ a -> H2 b = H1 b := by
   rcases hq with hq | ⟨o,hq⟩
   . obtain ⟨o,I2⟩ := I1.freeze hq
     refine ⟨o,_,I2,upd_same,fun b u e => ?_,fun b hb => upd_ne hb⟩
     by_cases z : b = a
     . subst z
       rw [hq] at e
       cases e
       exact .inr ⟨kvs,o,rfl,upd_same⟩
     . exact .inl (by rw [upd_ne z]; exact e)
   . exact ⟨o,H1,I1,hq,SameF.refl _,fun _ _ => rfl⟩
 obtain ⟨vs,es,ep,rel,ds,dd,hat⟩ := I2.frz e2
 refine wpAny_pyIter_dict ds hat ?_
 refine ⟨s1.heap.objs.size,[s1.heap.objs.size],_,_,H2,rfl,I2.kept (t' := s1.toks) fun b o e => Heap.get?_push_of_some _ e,turn_dict a _ o es ep kvs dd,⟨_,Heap.get?_push_size _ rfl,rfl,by rw [<- rel.length]; rfl⟩,fun b hb => ?_,q o H2 e2 sf oth⟩
 have e : b = s1.heap.objs.size := by simpa using hb
 subst e
 exact I2.fpOk (Nat.le_refl _) (I2.hok.fresh (Nat.le_refl _))
end
section
variable {H1 : Hp} {D : Addr} {σ0 : St} {g : BI -> TG} {tt : BI -> TT} {te : BI -> TE} {End : Hp -> Prop}
theorem comp_dict {a : Addr} {o : Obj} {kvs : List (Key × V)} (Pv : Nat -> Hp -> Prop) (h0 : Pv 0 (upd H1 D (.lst []))) (hl : ∀ i H,i <= kvs.length -> Pv i H -> H a = some (.frz o (.dK kvs))) (stop : ∀ H,Pv kvs.length H -> End H)
   (turn : ∀ i k x H,kvs[i]? = some (k,x) -> i < kvs.length -> Pv i H -> ∀ b,g b (kV k) σ0 H fun σ2 H2 => tt b σ2 H2 fun c H3 => if c = true then aPut D (te b) σ2 H3 (Nx kvs.length i Pv) else Nx kvs.length i Pv H3) :
   ∃ W : Nat -> Nat -> Hp -> Prop,(∃ m,W 0 m (upd H1 D (.lst []))) /\ ∀ b,CTurn (Itd a o kvs) (g b) (tt b) (aPut D (te b)) σ0 End W :=
 comp_by kvs.length Pv h0 (fun H p => ⟨⟨hl _ H (Nat.le_refl _) p,Nat.le_refl _⟩,stop H p⟩) fun i H hi p =>
   ⟨⟨hl i H (Nat.le_of_lt hi) p,hi⟩,fun x H' ⟨e,k,y,hy,ex⟩ b => by subst e ex; exact turn i k y _ hy hi p b⟩
end
end L2
namespace HT
open PySem PySem.Spec PyProof.Rows
theorem dict_ne_nil (l b : Addr) (es : Array DictEntry) (n n2 : Nat) (dd dd2 : Option Addr) (sl sl2 : Array (Option Value)) (hl0 : (l == sysModules) = false) (hb0 : (b == sysModules) = false) :
   Meets (Builtin.«dict.__ne__» ⟨[.ref l,.ref b],[]⟩) (fun _ R s => s.heap.get? l = some { cls := .type "dict",dict := dd,data := .dict es n,slots := sl } /\ s.heap.get? b = some { cls := .type "dict",dict := dd2,data := .dict #[] n2,slots := sl2 } /\ R (.ok (.ret (Value.bool (!es.isEmpty)))) s) :=
 .of_wp fun prog w A R s h => by
   obtain ⟨hp,g,d,tk,os⟩ := s; obtain ⟨hl,hb,h⟩ := h; have f2 := isSubtype_dict_dict
   have tl : (⟨hp,g,d,tk,os⟩ : Shared).TypeIs (.ref l) "dict" := ⟨_,hl,rfl⟩
   have tb : (⟨hp,g,d,tk,os⟩ : Shared).TypeIs (.ref b) "dict" := ⟨_,hb,rfl⟩
   show wpAny _ _ (Builtin.Dict.dictSlotArgs "__ne__" ⟨[.ref l,.ref b],[]⟩ >>= _) _ _ _
   refine wpAny_bind ?_
   unfold Builtin.Dict.dictSlotArgs
   refine wpAny_bind (wpAny_notOrdered_dict (args := ⟨[.ref l,.ref b],[]⟩) tl ?_)
   refine wpAny_bind (wpAny_pure (wpAny_pure ?_))
   show wpAny _ _ (isInstance (.ref b) (.type "dict") >>= _) _ _ _
   refine wpAny_bind (wpAny_isInstance tb f2 ?_)
   show wpAny _ _ (Builtin.Dict.samePairs _ l b >>= _) _ _ _
   refine wpAny_bind ?_
   unfold Builtin.Dict.samePairs Builtin.Dict.showsAll
   rw [if_neg (by rw [hl0]; exact Bool.false_ne_true),if_neg (by rw [hb0]; exact Bool.false_ne_true)]
   refine wpAny_bind (wpAny_pure (wpAny_bind (wpAny_pure ?_)))
   refine wpAny_bind (wpAny_dictEntries hl rfl ?_)
   refine wpAny_bind (wpAny_dictEntries hb rfl ?_)
   by_cases e : es.size = 0
   . have e' : es = #[] := Array.eq_empty_of_size_eq_zero e
     subst e'
     rw [if_neg (by decide)]
     refine wpAny_bind (wpAny_dictEpoch hl rfl ?_)
     refine wpAny_bind ?_
     simp only [Std.Legacy.Range.forIn_eq_forIn_range',Std.Legacy.Range.size]
     refine wpAny_pure (wpAny_pure (wpAny_pure ⟨_,rfl,?_⟩))
     exact h
   . rw [if_pos (by simpa using e)]
     refine wpAny_bind (wpAny_rule (wpAny_pure (wpAny_pure ⟨_,rfl,?_⟩)))
     have : (!es.isEmpty) = true := by simp [Array.isEmpty,e]
     rw [this] at h
     exact h
section
variable {prog : Program} {w : World} {A : Around} {E : Value -> Shared -> Prop} {s : Shared}
theorem ne_dict_nil {t b : Addr} {o o2 : Obj} {es : Array DictEntry} {n n2 : Nat} {Q : Value -> Shared -> Prop} (ht : s.heap.get? t = some o) (c1 : o.cls = .type "dict") (d1 : o.data = .dict es n) (hb : s.heap.get? b = some o2) (c2 : o2.cls = .type "dict") (d2 : o2.data = .dict #[] n2)
   (hl0 : (t == sysModules) = false) (hb0 : (b == sysModules) = false) (hu : A.units < cLine) (h : Q (.bool (!es.isEmpty)) s) : wpAny (model prog w) A (compareOp .NotEq (.ref t) (.ref b)) Q E s := by
 obtain ⟨cls,dd,data,sl⟩ := o
 obtain ⟨cls2,dd2,data2,sl2⟩ := o2
 simp only at c1 d1 c2 d2
 subst c1 d1 c2 d2
 exact richCompare_meets_room (op := .NotEq) ⟨_,ht,rfl⟩ ⟨_,hb,rfl⟩ PySem.F.slot_dict_ne PySem.F.entry_dict_ne (PySem.F.args_dict_ne_2 _ _) (dict_ne_nil t b es n n2 dd dd2 sl sl2 hl0 hb0)
   ⟨ht,hb,show Value.bool (!es.isEmpty) ≠ Value.notImplemented /\ Q (.bool (!es.isEmpty)) s from ⟨(fun x => nomatch x),h⟩⟩ hu
end
end HT
namespace L2
open PySem PySem.Spec PyProof.Rows
section
variable {X : Cx}
structure NeD (x y : V) (H : Hp) (Q : VK) : Prop where
 h : ∃ a b kvs,x = .ref a /\ y = .ref b /\ Rd H a (.dK kvs) /\ H b = some (.dK []) /\ Q (.bl (!kvs.isEmpty)) H
theorem dict_size {P : Program} {w : World} {h : Heap} {a : Addr} {kvs : List (Key × V)} {vs : List (Key × Value)} (rel : KV kvs vs) (dd : h.DictOf (mixKind P w) a vs) : ∃ o es n,h.get? a = some o /\ o.cls = .type "dict" /\ o.data = .dict es n /\ es.size = kvs.length := by
 obtain ⟨o,es,ep,e,c,d,_,hp,_⟩ := dd
 refine ⟨o,es,ep,e,c.1,d,?_⟩
 have z := hp.length
 rw [rel.length,<- z]
 simp
theorem oNeD (hu : X.A.units < cLine) : OpR X (compareOp .NotEq) NeD := by
 intro pins s σ H x y v u Q I rx ry ⟨h⟩
 obtain ⟨a,b,kvs,rfl,rfl,ha,hb,q⟩ := h
 cases rx
 cases ry
 obtain ⟨z1,s1,vs1,r1,dd1⟩ := dk_rd I.hok ha
 obtain ⟨z2,s2,vs2,r2,dd2⟩ := dk_of I.hok hb
 obtain ⟨o1,es1,n1,e1,c1,d1,l1⟩ := dict_size r1 dd1
 obtain ⟨o2,es2,n2,e2,c2,d2,l2⟩ := dict_size r2 dd2
 have e3 : es2 = #[] := Array.eq_empty_of_size_eq_zero l2
 subst e3
 refine HT.ne_dict_nil e1 c1 d1 e2 c2 d2 s1 s2 hu ⟨.bl (!kvs.isEmpty),H,I,?_,q⟩
 have e : es1.isEmpty = kvs.isEmpty := by
   cases kvs with
   | nil => simp [Array.isEmpty,l1]
   | cons p r => simp [Array.isEmpty,l1]
 rw [e]; rfl
end
end L2
namespace L2
open PySem PySem.Spec PyProof.Rows
section
variable {X : Cx}
theorem call_sortedR (hc : X.calm = true) : CallR X (.builtin "sorted") (fun xs H Q => ∃ p kvs ss,xs = [.ref p] /\ Rd H p (.dK kvs) /\ kvs.map (·.1) = ss.map Sum.inr /\ ss.length < 64 /\ ∀ l ss',H l = none -> ss'.Perm ss -> sortedS ss' = true -> Q (.ref l) (upd H l (.lst (ss'.map V.str)))) := by
 intro pins s σ H xs us Q I r h
 obtain ⟨p,kvs,ss,rfl,hp,hk,h64,q⟩ := h
 obtain ⟨u,rfl,ru⟩ := vals1 r
 cases ru
 obtain ⟨z,d,vs,rel,dd⟩ := dk_rd I.hok hp
 have hl : kvs.length = ss.length := by have := congrArg List.length hk; simpa using this
 have hvl : vs.length = ss.length := by rw [<- rel.length]; exact hl
 have sl0 : sizeLine = 16777216 := sizeLine_eq
 obtain ⟨ep,hat⟩ := dd.dictAt
 refine sorted_by h64 (fun R hR => PySem.W.kdu_collect (A := X.A.in1) (PySem.W.kdl_dict (knd := mixKind X.prog X.w) (kvs := vs) (ep := ep) d) (by simpa using I.ok.hd hc) hat (by omega) fun h' tk acc kk hacc => hR h' tk acc.toList kk ?_) fun h1 h' tk out ss' n k1 k2 ho hS hp2 hs => ?_
 . refine strs_at (by rw [Array.length_toList]; exact hacc.1.trans hvl) fun i v e => ?_
   obtain ⟨k,x,ek,hk'⟩ := hacc.2 i v (by simpa using e)
   have ek2 : (kvs.map (·.1))[i]? = some k := by
     rw [rel.keys,List.getElem?_map,ek]; rfl
   rw [hk,List.getElem?_map] at ek2
   cases es : ss[i]? with
   | none => rw [es] at ek2; cases ek2
   | some y =>
     rw [es] at ek2
     cases (show some (Sum.inr y : Key) = some k from ek2)
     rcases keyIs_shape (show keyIs (Sum.inr y) v = true from hk') with ⟨j,t,e1,e2⟩ | ⟨x',t,e1,e2⟩ | ⟨e1,e2⟩
     . cases e1
     . cases e1
       exact ⟨y,t,rfl,e2⟩
     . cases e1
 . have I1 : Inv X pins σ H { s with heap := h1,toks := tk } := I.kept k1
   have hl' : ss'.length = ss.length := hp2.length_eq
   exact ⟨.ref h1.objs.size,_,I1.laid (t' := tk) (o := .lst (ss'.map V.str)) k2 (Nat.le_refl _) ⟨by rw [List.length_map]; omega,out,n,strs_to hS,ho⟩,rfl,q _ _ (I1.hok.fresh (Nat.le_refl _)) hp2 hs⟩
end
end L2
namespace K02
open PySem L2
theorem if_join {c : TT} {t e u : TS} {D : Ends} {σ : St} {H : Hp} (N : St -> Hp -> Prop) (h : ∀ U : St -> Hp -> Prop,(∀ σ' H',N σ' H' -> U σ' H') -> tIfS c t e { D with nx := U } σ H) (hN : ∀ σ' H',N σ' H' -> u D σ' H') : tSeq (tIfS c t e) u D σ H := h (u D) hN
theorem asg_i {te : TE} {g : TG} {u : TS} {D : Ends} {σ : St} {H : Hp} (h : ∀ U : St -> Hp -> Prop,U = u D -> te σ H fun x H1 => g x σ H1 U) : tSeq (tAsg te g) u D σ H := h (u D) rfl
theorem gn {i : Nat} {v : V} {n : St -> Hp -> Prop} {σ : St} {H : Hp} (h : n (σ.set i (some v)) H) : gName i v σ H n := h
theorem hideP {G : Prop} (h : ∀ R : Prop,R = G -> R) : G := h G rfl
def isW : V -> Bool
 | .int _ => true
 | _ => false
def Thing (K : PySem.W.Frag) (H : Hp) (x : V) : Prop := (∃ T,TyOf K H x (.type T)) /\ ∀ z,x = .str z -> z.length <= sizeLine
def low (c : Nat) : Bool := 97 <= c && c <= 122
def isN : V -> Bool
 | .str z => decide (1 <= z.length) && decide (z.length <= 8) && z.cps.toList.all low
 | _ => false
def spWhole (K : PySem.W.Frag) : Sp := fun vs H Q _ => ∃ x,vs = [x] /\ Thing K H x /\ Q (.bl (isW x)) H
def spName (K : PySem.W.Frag) : Sp := fun vs H Q _ => ∃ x,vs = [x] /\ Thing K H x /\ ∀ H',Same H H' -> Q (.bl (isN x)) H'
section
variable {P : Program} {w : World} {K : PySem.W.Frag} {mg : Str -> Option Value} {base : Heap} {t8 t6 tR tL : Tok}
theorem isW_ty {H : Hp} {x : V} {T : String} (h : TyOf K H x (.type T)) : (sub8 T "int" && !sub8 T "bool") = isW x := by
 cases h <;> rfl
theorem low_of (c : Nat) : (!decide ((⟨#[c]⟩ : Str).cps.toList < ("a" : Str).cps.toList)) = decide (97 <= c) /\ (!decide (("z" : Str).cps.toList < (⟨#[c]⟩ : Str).cps.toList)) = decide (c <= 122) := by
 have ea : ("a" : Str).cps.toList = [97] := by decide +kernel
 have ez : ("z" : Str).cps.toList = [122] := by decide +kernel
 have es : (⟨#[c]⟩ : Str).cps.toList = [c] := rfl
 rw [ea,ez,es]
 constructor
 . rw [Bool.eq_iff_iff]; simp [lt1]
 . rw [Bool.eq_iff_iff]; simp [lt1]
end
end K02
namespace K02
open PySem L2
structure Good (z : Str) : Prop where
 lo : 1 <= z.length
 hi : z.length <= 8
 all : ∀ c ∈ z.cps.toList,low c = true
theorem Good.isN {z : Str} (g : Good z) : K02.isN (.str z) = true := by
 have h : z.cps.toList.all low = true := List.all_eq_true.mpr g.all
 simp [K02.isN,g.lo,g.hi,h]
abbrev Row := Str × Int
structure House where
 name : Str
 low : Int
 high : Int
 drift : Int
 runs : List (List Row)
abbrev Letter := (Str × Str) × Int × Option Int
def mostV : Option Int -> V
 | none => .non
 | some i => .int i
def RowAt (H : Hp) (v : V) (r : Row) : Prop := ∃ a,v = .ref a /\ H a = some (.tup [.str r.1,.int r.2])
def RunAt (H : Hp) (v : V) (rs : List Row) : Prop := ∃ a vs,v = .ref a /\ H a = some (.tup vs) /\ Paired (RowAt H) vs rs
def RunsAt (H : Hp) (v : V) (rs : List (List Row)) : Prop := ∃ a vs,v = .ref a /\ H a = some (.tup vs) /\ Paired (RunAt H) vs rs
def HouseAt (H : Hp) (v : V) (h : House) : Prop := ∃ a b,v = .ref a /\ H a = some (.tup [.str h.name,.int h.low,.int h.high,.int h.drift,b]) /\ RunsAt H b h.runs
def HousesAt (H : Hp) (v : V) (hs : List House) : Prop := ∃ a vs,v = .ref a /\ H a = some (.tup vs) /\ Paired (HouseAt H) vs hs
def LetterAt (H : Hp) (v : V) (l : Letter) : Prop := ∃ a,v = .ref a /\ H a = some (.tup [.str l.1.1,.str l.1.2,.int l.2.1,mostV l.2.2])
def LettersAt (H : Hp) (v : V) (ls : List Letter) : Prop := ∃ a vs,v = .ref a /\ H a = some (.tup vs) /\ Paired (LetterAt H) vs ls
def LedgerAt (H : Hp) (v : V) (hs : List House) (ls : List Letter) : Prop := ∃ a x y,v = .ref a /\ H a = some (.tup [x,y]) /\ HousesAt H x hs /\ LettersAt H y ls
section
variable {H H' : Hp} {v : V} (s : Tups H H')
include s
theorem RowAt.ts {r : Row} (h : RowAt H v r) : RowAt H' v r := let ⟨a,e,g⟩ := h; ⟨a,e,s _ _ g⟩
theorem RunAt.ts {r : List Row} (h : RunAt H v r) : RunAt H' v r := let ⟨a,vs,e,g,p⟩ := h; ⟨a,vs,e,s _ _ g,paired_mono (fun _ _ q => RowAt.ts s q) p⟩
theorem RunsAt.ts {r : List (List Row)} (h : RunsAt H v r) : RunsAt H' v r := let ⟨a,vs,e,g,p⟩ := h; ⟨a,vs,e,s _ _ g,paired_mono (fun _ _ q => RunAt.ts s q) p⟩
theorem HouseAt.ts {r : House} (h : HouseAt H v r) : HouseAt H' v r := let ⟨a,b,e,g,p⟩ := h; ⟨a,b,e,s _ _ g,RunsAt.ts s p⟩
theorem HousesAt.ts {r : List House} (h : HousesAt H v r) : HousesAt H' v r := let ⟨a,vs,e,g,p⟩ := h; ⟨a,vs,e,s _ _ g,paired_mono (fun _ _ q => HouseAt.ts s q) p⟩
theorem LetterAt.ts {r : Letter} (h : LetterAt H v r) : LetterAt H' v r := let ⟨a,e,g⟩ := h; ⟨a,e,s _ _ g⟩
theorem LettersAt.ts {r : List Letter} (h : LettersAt H v r) : LettersAt H' v r := let ⟨a,vs,e,g,p⟩ := h; ⟨a,vs,e,s _ _ g,paired_mono (fun _ _ q => LetterAt.ts s q) p⟩
theorem LedgerAt.ts {hs : List House} {ls : List Letter} (h : LedgerAt H v hs ls) : LedgerAt H' v hs ls := let ⟨a,x,y,e,g,p,q⟩ := h; ⟨a,x,y,e,s _ _ g,HousesAt.ts s p,LettersAt.ts s q⟩
end
structure GoodRun (rs : List Row) : Prop where
 ne : rs ≠ []
 few : rs.length <= 25
 names : ∀ r ∈ rs,Good r.1
 rise : (rs.map Prod.snd).Pairwise (· < ·)
structure GoodHouse (h : House) : Prop where
 name : Good h.name
 wide : h.low <= h.high
 drift : 0 <= h.drift
 few : h.runs.length <= 25
 runs : ∀ r ∈ h.runs,GoodRun r
def rowsH (h : House) : List Row := h.runs.flatten
def namesH (h : House) : List Str := (rowsH h).map Prod.fst
def namesOf (hs : List House) : List Str := hs.flatMap namesH
structure GoodHouses (hs : List House) : Prop where
 lo : 1 <= hs.length
 hi : hs.length <= 6
 all : ∀ h ∈ hs,GoodHouse h
 names : (hs.map House.name).Nodup
 rows : (namesOf hs).Nodup
 few : (namesOf hs).length <= 24
structure GoodLetter (hs : List House) (l : Letter) : Prop where
 sent : Good l.1.1
 taken : Good l.1.2
 least : 1 <= l.2.1
 most : ∀ m,l.2.2 = some m -> l.2.1 <= m
 houses : ∃ h1 ∈ hs,∃ h2 ∈ hs,l.1.1 ∈ namesH h1 /\ l.1.2 ∈ namesH h2 /\ h1.name ≠ h2.name
structure GoodLetters (hs : List House) (ls : List Letter) : Prop where
 few : ls.length <= 24
 all : ∀ l ∈ ls,GoodLetter hs l
 rise : (ls.map Prod.fst).Pairwise (fun a b => plt a b = true)
end K02
namespace K02
open PySem L2
inductive Da where
 | non | bl (b : Bool) | int (i : Int) | str (z : Str) | tup (xs : List Da) | oth
mutual
inductive DaAt (H : Hp) : V -> Da -> Prop
 | non : DaAt H .non .non
 | bl (b : Bool) : DaAt H (.bl b) (.bl b)
 | int (i : Int) : DaAt H (.int i) (.int i)
 | str (z : Str) (h : z.length <= sizeLine) : DaAt H (.str z) (.str z)
 | tup {a : Addr} {vs : List V} {xs : List Da} : H a = some (.tup vs) -> vs.length <= 25 -> DaAs H vs xs -> DaAt H (.ref a) (.tup xs)
 | lst {a : Addr} {vs : List V} : H a = some (.lst vs) -> DaAt H (.ref a) .oth
 | dic {a : Addr} {kvs : List (Key × V)} : H a = some (.dK kvs) -> DaAt H (.ref a) .oth
inductive DaAs (H : Hp) : List V -> List Da -> Prop
 | nil : DaAs H [] []
 | cons {v : V} {vs : List V} {x : Da} {xs : List Da} : DaAt H v x -> DaAs H vs xs -> DaAs H (v :: vs) (x :: xs)
end
mutual
theorem DaAt.same {H H' : Hp} (s : Same H H') : ∀ {v : V} {d : Da},DaAt H v d -> DaAt H' v d
 | _,_,.non => .non
 | _,_,.bl b => .bl b
 | _,_,.int i => .int i
 | _,_,.str z h => .str z h
 | _,_,.tup h l r => .tup (s _ _ h) l (DaAs.same s r)
 | _,_,.lst h => .lst (s _ _ h)
 | _,_,.dic h => .dic (s _ _ h)
theorem DaAs.same {H H' : Hp} (s : Same H H') : ∀ {v : List V} {d : List Da},DaAs H v d -> DaAs H' v d
 | _,_,.nil => .nil
 | _,_,.cons h r => .cons (DaAt.same s h) (DaAs.same s r)
end
theorem DaAs.len {H : Hp} : ∀ {vs : List V} {xs : List Da},DaAs H vs xs -> vs.length = xs.length
 | _,_,.nil => rfl
 | _,_,.cons _ r => by rw [List.length_cons,List.length_cons,r.len]
theorem DaAs.get {H : Hp} : ∀ {vs : List V} {xs : List Da},DaAs H vs xs -> ∀ {i : Nat} {v : V},vs[i]? = some v -> ∃ x,xs[i]? = some x /\ DaAt H v x
 | _,_,.nil,i,v,e => by simp at e
 | _,_,.cons h r,i,v,e => by
   cases i with
   | zero => cases (show some _ = some v from e); exact ⟨_,rfl,h⟩
   | succ i => exact r.get (by simpa using e)
theorem DaAs.inv {H : Hp} {vs : List V} {x : Da} {xs : List Da} (h : DaAs H vs (x :: xs)) : ∃ v r,vs = v :: r /\ DaAt H v x /\ DaAs H r xs := by
 cases h with
 | cons h r => exact ⟨_,_,rfl,h,r⟩
theorem DaAs.inv0 {H : Hp} {vs : List V} (h : DaAs H vs []) : vs = [] := by cases h; rfl
theorem DaAs.one1 {H : Hp} {vs : List V} {a : Da} (h : DaAs H vs [a]) : ∃ v1,vs = [v1] /\ DaAt H v1 a := by
 obtain ⟨v,r,rfl,h1,h2⟩ := h.inv
 obtain rfl := h2.inv0
 exact ⟨_,rfl,h1⟩
theorem DaAs.two {H : Hp} {vs : List V} {a b : Da} (h : DaAs H vs [a,b]) : ∃ v1 v2,vs = [v1,v2] /\ DaAt H v1 a /\ DaAt H v2 b := by
 obtain ⟨v,r,rfl,h1,h2⟩ := h.inv
 obtain ⟨w,rfl,h3⟩ := h2.one1
 exact ⟨_,_,rfl,h1,h3⟩
theorem DaAs.four {H : Hp} {vs : List V} {a b c d : Da} (h : DaAs H vs [a,b,c,d]) : ∃ v1 v2 v3 v4,vs = [v1,v2,v3,v4] /\ DaAt H v1 a /\ DaAt H v2 b /\ DaAt H v3 c /\ DaAt H v4 d := by
 obtain ⟨v,r,rfl,h1,h2⟩ := h.inv
 obtain ⟨w,r,rfl,h3,h4⟩ := h2.inv
 obtain ⟨x,y,rfl,h5,h6⟩ := h4.two
 exact ⟨_,_,_,_,rfl,h1,h3,h5,h6⟩
theorem DaAs.five {H : Hp} {vs : List V} {a b c d e : Da} (h : DaAs H vs [a,b,c,d,e]) : ∃ v1 v2 v3 v4 v5,vs = [v1,v2,v3,v4,v5] /\ DaAt H v1 a /\ DaAt H v2 b /\ DaAt H v3 c /\ DaAt H v4 d /\ DaAt H v5 e := by
 obtain ⟨v,r,rfl,h1,h2⟩ := h.inv
 obtain ⟨w,x,y,z,rfl,h3,h4,h5,h6⟩ := h2.four
 exact ⟨_,_,_,_,_,rfl,h1,h3,h4,h5,h6⟩
theorem len_inv {n : Nat} {xs : List Da} (h : xs.length = n + 1) : ∃ x r,xs = x :: r /\ r.length = n := by
 cases xs with
 | nil => cases h
 | cons x r => exact ⟨x,r,rfl,Nat.succ.inj h⟩
theorem len2 {xs : List Da} (h : xs.length = 2) : ∃ a b,xs = [a,b] := by
 obtain ⟨a,r1,rfl,h1⟩ := len_inv h
 obtain ⟨b,r2,rfl,h2⟩ := len_inv h1
 obtain rfl := List.eq_nil_of_length_eq_zero h2
 exact ⟨a,b,rfl⟩
theorem DaAt.tupE {H : Hp} {v : V} {xs : List Da} (h : DaAt H v (.tup xs)) : ∃ a vs,v = .ref a /\ H a = some (.tup vs) /\ vs.length <= 25 /\ DaAs H vs xs := by
 cases h with
 | tup h l r => exact ⟨_,_,rfl,h,l,r⟩
def isTupD : Da -> Bool
 | .tup _ => true
 | _ => false
def isWD : Da -> Bool
 | .int _ => true
 | _ => false
def isND : Da -> Bool
 | .str z => isN (.str z)
 | _ => false
def partsD (d : Da) (n : Nat) : Bool := match d with
 | .tup xs => decide (xs.length = n)
 | _ => false
def namedD : Da -> Bool
 | .tup [a,b] => isND a && isWD b
 | _ => false
theorem DaAt.kind {K : PySem.W.Frag} {H : Hp} {v : V} {d : Da} (h : DaAt H v d) : Thing K H v /\ (∃ T,TyOf K H v (.type T) /\ PySem.W.kitOne K (.type T) (.type "tuple") = some (isTupD d)) /\ isW v = isWD d /\ isN v = isND d := by
 cases h with
 | non => exact ⟨⟨⟨_,.non⟩,fun z e => by cases e⟩,⟨_,.non,(kit8 (K := K) (TyOf.non (H := H))).2.2.2⟩,rfl,rfl⟩
 | bl b => exact ⟨⟨⟨_,.bl b⟩,fun z e => by cases e⟩,⟨_,.bl b,(kit8 (K := K) (TyOf.bl (H := H) b)).2.2.2⟩,rfl,rfl⟩
 | int i => exact ⟨⟨⟨_,.int i⟩,fun z e => by cases e⟩,⟨_,.int i,(kit8 (K := K) (TyOf.int (H := H) i)).2.2.2⟩,rfl,rfl⟩
 | str z hz => exact ⟨⟨⟨_,.str z⟩,fun y e => by cases e; exact hz⟩,⟨_,.str z,(kit8 (K := K) (TyOf.str (H := H) z)).2.2.2⟩,rfl,rfl⟩
 | tup e l r => exact ⟨⟨⟨_,.tup e⟩,fun z e => by cases e⟩,⟨_,.tup e,(kit8 (K := K) (TyOf.tup e)).2.2.2⟩,rfl,rfl⟩
 | lst e => exact ⟨⟨⟨_,.lst e⟩,fun z e => by cases e⟩,⟨_,.lst e,(kit8 (K := K) (TyOf.lst e)).2.2.2⟩,rfl,rfl⟩
 | dic e => exact ⟨⟨⟨_,.dK e⟩,fun z e => by cases e⟩,⟨_,.dK e,(kit8 (K := K) (TyOf.dK e)).2.2.2⟩,rfl,rfl⟩
def spD (f : Da -> Bool) : Sp := fun vs H Q _ => ∃ (x : V) (d : Da),vs = [x] /\ DaAt H x d /\ ∀ H',Same H H' -> Q (.bl (f d)) H'
def spParts : Sp := fun vs H Q _ => ∃ (x : V) (d : Da) (n : Nat),vs = [x,.int (n : Int)] /\ DaAt H x d /\ Q (.bl (partsD d n)) H
theorem sql_same {K : PySem.W.Frag} {H H' : Hp} {a : Addr} {xs : List V} (s : Same H H') (h : SqL K H a xs) : SqL K H' a xs := by
 rcases h with (h | ⟨o,h⟩) | h
 . exact .inl (.inl (s _ _ h))
 . exact .inl (.inr ⟨o,s _ _ h⟩)
 . exact .inr h
section
variable {P : Program} {w : World} {K : PySem.W.Frag} {mg : Str -> Option Value} {base : Heap} {t8 t6 tR tL : Tok}
end
end K02
namespace K02
open PySem L2
section
variable {P : Program} {w : World} {K : PySem.W.Frag} {mg : Str -> Option Value} {base : Heap} {t8 t6 tR tL : Tok}
end
end K02
namespace K02
open PySem L2
def spRowsIn : Sp := fun vs H Q _ => ∃ (x : V) (h : House),vs = [x] /\ HouseAt H x h /\ GoodHouse h /\ ∀ (l : Addr) (zs : List V) (H' : Hp),H l = none -> H' l = some (.lst zs) -> Same H H' -> Paired (RowAt H') zs (rowsH h) -> Q (.ref l) H'
def spRowNames : Sp := fun vs H Q _ => ∃ (x : V) (hs : List House),vs = [x] /\ HousesAt H x hs /\ hs.length <= 6 /\ (∀ h ∈ hs,GoodHouse h) /\ ∀ (l : Addr) (H' : Hp),H l = none -> H' l = some (.lst ((namesOf hs).map V.str)) -> Same H H' -> Q (.ref l) H'
theorem flat_len {α : Type} : ∀ {l : List (List α)} {n : Nat},(∀ r ∈ l,r.length <= n) -> l.flatten.length <= l.length * n
 | [],_,_ => by simp
 | r :: l,n,h => by
   have h1 := h r List.mem_cons_self
   have h2 := flat_len fun q hq => h q (List.mem_cons_of_mem _ hq)
   rw [List.flatten_cons,List.length_append,List.length_cons,Nat.succ_mul]
   omega
theorem GoodHouse.len {h : House} (g : GoodHouse h) : (rowsH h).length <= 625 := by
 have h1 := flat_len (n := 25) fun r hr => (g.runs r hr).few
 have h2 : h.runs.length * 25 <= 25 * 25 := Nat.mul_le_mul_right 25 g.few
 show h.runs.flatten.length <= 625
 omega
section
variable {P : Program} {w : World} {K : PySem.W.Frag} {mg : Str -> Option Value} {base : Heap} {t8 t6 tR tL : Tok}
end
end K02
namespace K02
open PySem L2
def rowOf : Da -> Row
 | .tup [.str z,.int j] => (z,j)
 | _ => (⟨#[]⟩,0)
def pairsH (h : House) : List (Str × Str) := (rowsH h).map fun r => (r.1,h.name)
def pairsOf (hs : List House) : List (Str × Str) := hs.flatMap pairsH
theorem pairsH_fst (h : House) : (pairsH h).map Prod.fst = namesH h := by unfold pairsH namesH; rw [List.map_map]; rfl
theorem pairsOf_fst (hs : List House) : (pairsOf hs).map Prod.fst = namesOf hs := by
 unfold pairsOf namesOf
 rw [List.map_flatMap]
 congr 1
 funext h
 exact pairsH_fst h
section
variable {P : Program} {w : World} {K : PySem.W.Frag} {mg : Str -> Option Value} {base : Heap} {t8 t6 tR tL : Tok}
end
end K02
namespace K02
open PySem L2
section
variable {P : Program} {w : World} {K : PySem.W.Frag} {mg : Str -> Option Value} {base : Heap} {t8 t6 tR tL : Tok}
end
end K02
namespace K02
open PySem L2
open Builtin.Int in
theorem oMulB {X : Cx} : OpR X (binaryOp .Mult) (fIc IntMulOk fun i j => .int (i * j)) := (opI fun _ _ _ _ _ _ _ hc q => PyProof.Rows.mul_int q hc : OpR X (binaryOp .Mult) (rI IntMulOk fun i j => .int (i * j))).fIc
def Bits (n : Int) : Prop := Builtin.Int.intBits n <= 1048576
def spMixed : Sp := fun vs H Q _ => ∃ c : Int,vs = [.int c] /\ Builtin.Int.intBits c <= 2000000 /\ ∀ n : Int,0 <= n -> Q (.int n) H
def PackAt (H : Hp) (p : Addr) : Prop := ∃ n : Int,H p = some (.lst [.int n]) /\ 0 <= n
def spPack (K : PySem.W.Frag) : Sp := fun vs H Q _ => ∃ (a : Addr) (ns : List Int) (k : Int),vs = [.ref a,.int k] /\ SqL K H a (ns.map V.int) /\ (∀ n ∈ ns,Bits n) /\ ns.length <= 63 /\ 0 <= k /\ k <= 1000 /\ ∀ (p : Addr) (H' : Hp),H p = none -> PackAt H' p -> Same H H' -> Q (.ref p) H'
def spTake : Sp := fun vs H Q _ => ∃ (p : Addr) (m : Int),vs = [.ref p,.int m] /\ PackAt H p /\ 0 < m /\ m < 1073741824 /\ ∀ (d : Int) (H' : Hp),0 <= d -> d < m -> PackAt H' p -> SameB p H H' -> Q (.int d) H'
section
variable {P : Program} {w : World} {K : PySem.W.Frag} {mg : Str -> Option Value} {base : Heap} {t8 t6 tR tL : Tok}
end
end K02
namespace K02
open PySem L2
def abcL : List Nat := (List.range 26).map (97 + ·)
def rot (t : Nat) : List Nat := abcL.drop t ++ abcL.take t
def nameL (t sz pick k : Nat) : List Nat :=
 if pick = 0 then List.replicate (1 + k % 8) ((rot t).getD (k / 8) 0) else if pick = 1 then (rot t).getD (k % 26) 0 :: ((rot t).drop 4).take sz else ((rot t).drop 4).take sz ++ [(rot t).getD (k % 26) 0]
def okNames (l : List (List Nat)) : Bool := decide l.Nodup && l.all fun s => decide (1 <= s.length) && decide (s.length <= 8) && s.all low
def qL : List Nat := [113,113,113,113,113,113,113,114]
def qS : Str := ⟨qL.toArray⟩
theorem names_checkQ : ((List.range 26).all fun t => (List.range 8).all fun sz => (List.range 3).all fun pick => (List.range 12).all fun k => !decide (nameL t sz pick k = qL)) = true := by decide +kernel
theorem names_check : ((List.range 26).all fun t => (List.range 8).all fun sz => (List.range 3).all fun pick => okNames ((List.range 12).map (nameL t sz pick))) = true := by decide +kernel
def nameS (t sz pick k : Nat) : Str := ⟨(nameL t sz pick k).toArray⟩
def namesL (t sz pick : Nat) : List Str := (List.range 12).map (nameS t sz pick)
theorem namesL_ok {t sz pick : Nat} (ht : t < 26) (hz : sz < 8) (hp : pick < 3) : (namesL t sz pick).Nodup /\ ∀ s ∈ namesL t sz pick,Good s := by
 have h := List.all_eq_true.mp (List.all_eq_true.mp (List.all_eq_true.mp names_check t (List.mem_range.mpr ht)) sz (List.mem_range.mpr hz)) pick (List.mem_range.mpr hp)
 unfold okNames at h
 obtain ⟨h1,h2⟩ := Bool.and_eq_true_iff.mp h
 have h1' := of_decide_eq_true h1
 constructor
 . unfold namesL
   rw [List.nodup_iff_pairwise_ne,List.pairwise_map] at h1' ⊢
   refine h1'.imp fun {a b} z e => z ?_
   have := congrArg (fun s : Str => s.cps.toList) e
   simpa [nameS] using this
 . intro s hs
   obtain ⟨k,hk,rfl⟩ := List.mem_map.mp hs
   have h3 := List.all_eq_true.mp h2 (nameL t sz pick k) (List.mem_map.mpr ⟨k,hk,rfl⟩)
   obtain ⟨h4,h5⟩ := Bool.and_eq_true_iff.mp h3
   obtain ⟨h6,h7⟩ := Bool.and_eq_true_iff.mp h4
   refine ⟨?_,?_,fun c hc => List.all_eq_true.mp h5 c (by simpa [nameS] using hc)⟩
   . have := of_decide_eq_true h6; simpa [nameS,Str.length] using this
   . have := of_decide_eq_true h7; simpa [nameS,Str.length] using this
theorem namesL_q {t sz pick : Nat} (ht : t < 26) (hz : sz < 8) (hp : pick < 3) : ∀ s ∈ namesL t sz pick,s ≠ qS := by
 intro s hs e
 obtain ⟨k,hk,rfl⟩ := List.mem_map.mp hs
 have h := List.all_eq_true.mp (List.all_eq_true.mp (List.all_eq_true.mp (List.all_eq_true.mp names_checkQ t (List.mem_range.mpr ht)) sz (List.mem_range.mpr hz)) pick (List.mem_range.mpr hp)) k hk
 have := congrArg (fun s : Str => s.cps.toList) e
 have e2 : nameL t sz pick k = qL := by simpa [nameS,qS] using this
 rw [e2] at h
 exact absurd h (by decide)
def abc : Str := "abcdefghijklmnopqrstuvwxyz"
theorem abc_eq : abc.cps.toList = abcL := by decide +kernel
theorem rot_len {t : Nat} (h : t <= 26) : (rot t).length = 26 := by
 unfold rot
 rw [List.length_append,List.length_drop,List.length_take,show abcL.length = 26 by decide]
 omega
theorem abc_len : abc.length = 26 := by decide +kernel
theorem rot_text {t : Nat} (ht : t <= 26) : (PySem.Txt.slice abc (some (t : Int)) none ++ PySem.Txt.slice abc none (some (t : Int))).cps.toList = rot t := by
 rw [app_list,slice_to,slice_eq]
 unfold cutS rot
 rw [HT.sIx_nat,HT.sIx_none,abc_len,abc_eq,Nat.min_eq_left ht,List.take_of_length_le (by rw [List.length_drop,show abcL.length = 26 by decide]; omega)]
theorem atI_getD {l : List Nat} {k : Int} (h0 : 0 <= k) (h1 : k < l.length) : atI l k = some (l.getD k.toNat 0) := by
 obtain ⟨n,rfl⟩ := Int.eq_ofNat_of_zero_le h0
 refine atI_nat ?_
 have hn : n < l.length := by omega
 rw [List.getElem?_eq_getElem hn]
 simp [List.getD,hn]
def spNames : Sp := fun vs H Q _ => ∃ (p : Addr),vs = [.ref p,.int 12] /\ PackAt H p /\ ∀ (l : Addr) (ss : List Str) (H' : Hp),H l = none -> H' l = some (.lst (ss.map V.str)) -> ss.length = 12 -> ss.Nodup -> (∀ s ∈ ss,Good s) -> (∀ s ∈ ss,s ≠ qS) -> PackAt H' p -> SameB p H H' -> Q (.ref l) H'
section
variable {P : Program} {w : World} {K : PySem.W.Frag} {mg : Str -> Option Value} {base : Heap} {t8 t6 tR tL : Tok}
end
end K02
namespace K02
open PySem L2
def rowD (r : Row) : PyData := .tuple [.str r.1,.int r.2]
def rowsD (rs : List Row) : PyData := .list (rs.map rowD)
theorem Good.ok {z : Str} (g : Good z) : PyData.strOk z = true := by
 unfold PyData.strOk
 rw [Array.all_eq_true_iff_forall_mem]
 intro c hc
 have h := g.all c (by simpa using hc)
 unfold low at h
 have h2 := of_decide_eq_true (Bool.and_eq_true_iff.mp h).2
 exact decide_eq_true (by omega)
theorem rows_shaped : ∀ {rs : List Row},(∀ r ∈ rs,Good r.1) -> SeqAt.shaped (rowsD rs) = true := by
 intro rs h
 have h1 : PyData.canLayAll0 (rs.map rowD) = true := by
   induction rs with
   | nil => rfl
   | cons r rs ih =>
     rw [List.map_cons]
     unfold PyData.canLayAll0
     rw [ih fun q hq => h q (List.mem_cons_of_mem _ hq),Bool.and_true]
     unfold rowD PyData.canLay0 PyData.canLayAll0
     have z := (h r List.mem_cons_self).ok
     simp [PyData.canLay0,PyData.canLayAll0,z]
 have h2 : PyData.depthAll (rs.map rowD) <= 1 := by
   clear h h1
   induction rs with
   | nil => exact Nat.zero_le _
   | cons r rs ih =>
     rw [List.map_cons]
     unfold PyData.depthAll
     have e : PyData.depth (rowD r) = 1 := by simp [rowD,PyData.depth,PyData.depthAll]
     rw [e]
     omega
 unfold SeqAt.shaped rowsD
 rw [Bool.and_eq_true]
 refine ⟨?_,?_⟩
 . unfold PyData.canLay0; exact h1
 . unfold PyData.depth; exact decide_eq_true (by omega)
theorem rows_dp {K : PySem.W.Frag} {H : Hp} {a : Addr} {vs : List V} {rs : List Row} (ha : H a = some (.lst vs)) (p : Paired (RowAt H) vs rs) : Dp K H (.ref a) (rowsD rs) := by
 refine .lst (SqL.of ha) ?_
 clear ha
 induction p with
 | nil => exact .nil
 | cons h _ ih =>
   obtain ⟨b,rfl,hb⟩ := h
   exact .cons (.tup (SqT.of hb) (.cons (.str _) (.cons (.int _) .nil))) ih
theorem rows_eqv (rs : List Row) : PyData.eqv (rowsD rs) (.list []) = rs.isEmpty := by
 cases rs with
 | nil => simp [rowsD,PyData.eqv,PyData.eqvAll]
 | cons r rs => simp [rowsD,PyData.eqv,PyData.eqvAll]
structure NeNil (K : PySem.W.Frag) (x y : V) (H : Hp) (Q : VK) : Prop where
 h : rNeD K x y H Q
theorem oNeNil {X : Cx} (hu : X.A.units + 64 < cLine) : OpR X (compareOp .NotEq) (NeNil X.K) := fun pins s σ H x y v u Q I rx ry h => op_neD hu pins s σ H x y v u Q I rx ry h.h
theorem neNil {K : PySem.W.Frag} {H : Hp} {a l : Addr} {vs : List V} {rs : List Row} {Q : VK} (ha : H a = some (.lst vs)) (p : Paired (RowAt H) vs rs) (g : ∀ r ∈ rs,Good r.1) (hl : H l = some (.lst [])) (q : Q (.bl (!rs.isEmpty)) H) : NeNil K (.ref a) (.ref l) H Q :=
 ⟨rowsD rs,.list [],rows_dp ha p,.lst (SqL.of hl) .nil,rows_shaped g,rfl,by rw [rows_eqv]; exact q⟩
theorem atI_last {α : Type} {xs : List α} {x : α} : atI (xs ++ [x]) (-1) = some x := by
 unfold atI ixN
 have e : (xs ++ [x]).length = xs.length + 1 := by simp
 rw [e,if_neg (by decide),if_pos (by omega)]
 have e2 : ((-1 : Int) + ((xs.length + 1 : Nat) : Int)).toNat = xs.length := by omega
 rw [e2]
 simp
structure HS (H0 : Hp) (p R D : Addr) (ss : List Str) (room : Int) (H : Hp) (vr : List V) (kvs : List (Key × V)) (runs : List (List Row)) (m : Nat) : Prop where
 pack : PackAt H p
 same : SameB p H0 H
 hR : H R = some (.lst vr)
 pR : Paired (RunAt H) vr runs
 hD : H D = some (.dK kvs)
 keys : kvs.map (·.1) = (ss.take m).map Sum.inr
 vals : ∀ n ∈ ss.take m,∃ i : Int,valV kvs (.inr n) = some (.int i)
 le : m <= ss.length
 rm : (m : Int) <= room ∨ m = 0
 good : ∀ r ∈ runs,GoodRun r
theorem SameB.tups {p : Addr} {H H' : Hp} (hp : PackAt H p) (s : SameB p H H') : Tups H H' := fun b xs e => s b _ (fun z => by obtain ⟨n,e',_⟩ := hp; rw [z,e'] at e; cases e) e
section
variable {H0 H H' : Hp} {p R D : Addr} {ss : List Str} {room : Int} {vr : List V} {kvs : List (Key × V)} {runs : List (List Row)} {m : Nat}
theorem HS.step (h : HS H0 p R D ss room H vr kvs runs m) (nR : R ≠ p) (nD : D ≠ p) (pk : PackAt H' p) (s : SameB p H H') : HS H0 p R D ss room H' vr kvs runs m :=
 ⟨pk,h.same.trans s,s _ _ nR h.hR,paired_mono (fun _ _ z => z.ts (SameB.tups h.pack s)) h.pR,s _ _ nD h.hD,h.keys,h.vals,h.le,h.rm,h.good⟩
theorem PackAt.new {q : Addr} {o : HO} (h : PackAt H p) (hq : H q = none) : PackAt (upd H q o) p := by
 obtain ⟨n,e,n0⟩ := h
 exact ⟨n,by rw [upd_ne (ne_of_none e hq)]; exact e,n0⟩
theorem PackAt.put {q : Addr} {o : HO} (h : PackAt H p) (hq : q ≠ p) : PackAt (upd H q o) p := by
 obtain ⟨n,e,n0⟩ := h
 exact ⟨n,by rw [upd_ne (Ne.symm hq)]; exact e,n0⟩
theorem HS.new {q : Addr} {o : HO} (h : HS H0 p R D ss room H vr kvs runs m) (nR : R ≠ p) (nD : D ≠ p) (hq : H q = none) : HS H0 p R D ss room (upd H q o) vr kvs runs m :=
 h.step nR nD (h.pack.new hq) ((SameB.of (Same.refl H)).new hq)
theorem putK_new {kvs : List (Key × V)} {k : Key} {v : V} (h : k ∉ kvs.map (·.1)) : putK kvs k v = kvs ++ [(k,v)] := by
 unfold putK
 rw [if_neg]
 intro z
 obtain ⟨x,hx,e⟩ := List.any_eq_true.mp z
 exact h (List.mem_map.mpr ⟨x,hx,of_decide_eq_true e⟩)
theorem take_get {n : Str} (hm : ss[m]? = some n) : ss.take (m + 1) = ss.take m ++ [n] := by rw [List.take_add_one,hm]; rfl
theorem get_fresh {n : Str} (nd : ss.Nodup) (hm : ss[m]? = some n) : n ∉ ss.take m := fun z => by
 obtain ⟨j,hj,ej⟩ := List.mem_iff_getElem.mp z
 obtain ⟨hl,el⟩ := List.getElem?_eq_some_iff.mp hm
 rw [List.length_take] at hj
 rw [List.getElem_take] at ej
 have := (List.getElem_inj (i := j) (j := m) (h₀ := by omega) (h₁ := hl) nd).mp (ej.trans el.symm)
 omega
theorem HS.put {L tp : Addr} {vl : List V} {rs : List Row} {n : Str} {mo rd : Int} (h : HS H0 p R D ss room H vr kvs runs m) (nR : R ≠ p) (nD : D ≠ p) (nRD : R ≠ D) (nL : L ≠ p) (nLR : L ≠ R) (nLD : L ≠ D) (f0 : H0 D = none) (fL : H0 L = none)
   (nd : ss.Nodup) (hm : ss[m]? = some n) (hr : (m : Int) < room) (hL : H L = some (.lst vl)) (pl : Paired (RowAt H) vl rs) (ht : upd H D (.dK (putK kvs (.inr n) (.int mo))) tp = none) :
   HS H0 p R D ss room (upd (upd (upd H D (.dK (putK kvs (.inr n) (.int mo)))) tp (.tup [.str n,.int rd])) L (.lst (vl ++ [.ref tp]))) vr (putK kvs (.inr n) (.int mo)) runs (m + 1) /\
   Paired (RowAt (upd (upd (upd H D (.dK (putK kvs (.inr n) (.int mo)))) tp (.tup [.str n,.int rd])) L (.lst (vl ++ [.ref tp])))) (vl ++ [.ref tp]) (rs ++ [(n,rd)]) := by
 have t1 : Tups H (upd H D (.dK (putK kvs (.inr n) (.int mo)))) := (Tups.refl H).put h.hD (fun _ z => nomatch z)
 have t2 : Tups H (upd (upd H D (.dK (putK kvs (.inr n) (.int mo)))) tp (.tup [.str n,.int rd])) := t1.new ht
 have hL1 : upd H D (.dK (putK kvs (.inr n) (.int mo))) L = some (.lst vl) := by rw [upd_ne nLD]; exact hL
 have nLt : L ≠ tp := ne_of_none hL1 ht
 have hL2 : upd (upd H D (.dK (putK kvs (.inr n) (.int mo)))) tp (.tup [.str n,.int rd]) L = some (.lst vl) := by rw [upd_ne nLt]; exact hL1
 have t3 := t2.put (o := .lst (vl ++ [.ref tp])) hL2 (fun _ z => nomatch z)
 have hle : m < ss.length := (List.getElem?_eq_some_iff.mp hm).1
 have nkey : (Sum.inr n : Key) ∉ kvs.map (·.1) := fun z => by
   rw [h.keys] at z
   obtain ⟨y,hy,e⟩ := List.mem_map.mp z
   exact get_fresh nd hm (by rw [<- Sum.inr.inj e]; exact hy)
 refine ⟨⟨((h.pack.put nD).new ht).put nL,?_,?_,paired_mono (fun _ _ z => z.ts t3) h.pR,?_,?_,?_,hle,.inl (by omega),h.good⟩,?_⟩
 . intro b o hb e
   have n1 : b ≠ D := ne_of_none e f0
   have n2 : b ≠ L := ne_of_none e fL
   have e1 : upd H D (.dK (putK kvs (.inr n) (.int mo))) b = some o := by rw [upd_ne n1]; exact h.same b o hb e
   rw [upd_ne n2,upd_ne (ne_of_none e1 ht)]
   exact e1
 . have e1 : upd H D (.dK (putK kvs (.inr n) (.int mo))) R = some (.lst vr) := by rw [upd_ne nRD]; exact h.hR
   rw [upd_ne (Ne.symm nLR),upd_ne (ne_of_none e1 ht)]
   exact e1
 . have e1 : upd H D (.dK (putK kvs (.inr n) (.int mo))) D = some (.dK (putK kvs (.inr n) (.int mo))) := upd_same
   rw [upd_ne (Ne.symm nLD),upd_ne (ne_of_none e1 ht)]
   exact e1
 . rw [putK_new nkey,List.map_append,h.keys,take_get hm,List.map_append]; rfl
 . intro x hx
   rw [take_get hm] at hx
   rw [valV_put]
   by_cases e : (Sum.inr x : Key) = Sum.inr n
   . exact ⟨mo,if_pos e⟩
   . rw [if_neg e]
     rcases List.mem_append.mp hx with z | z
     . exact h.vals x z
     . exact absurd (by rw [List.mem_singleton.mp z]) e
 . refine paired_app (paired_mono (fun _ _ z => z.ts t3) pl) (.cons ⟨tp,rfl,?_⟩ .nil)
   rw [upd_ne (Ne.symm nLt),upd_same]
end
theorem rise_snoc {rs : List Row} {n : Str} {rd : Int} (h : (rs.map Prod.snd).Pairwise (· < ·)) (g : ∀ r ∈ rs,r.2 < rd) : ((rs ++ [(n,rd)]).map Prod.snd).Pairwise (· < ·) := by
 rw [List.map_append,List.pairwise_append]
 refine ⟨h,List.pairwise_singleton _ _,fun a ha b hb => ?_⟩
 obtain ⟨r,hr,rfl⟩ := List.mem_map.mp ha
 have e : b = rd := by simpa using hb
 rw [e]; exact g r hr
theorem menu4 {a b c e d : Int} (h0 : 0 <= d) (h4 : d < 4) (ha : 0 <= a /\ a <= 300) (hb : 0 <= b /\ b <= 300) (hc : 0 <= c /\ c <= 300) (he : 0 <= e /\ e <= 300) : ∃ w : Int,atI [V.int a,.int b,.int c,.int e] d = some (.int w) /\ 0 <= w /\ w <= 300 := by
 obtain ⟨n,rfl⟩ := Int.eq_ofNat_of_zero_le h0
 match n,h4 with
 | 0,_ => exact ⟨a,rfl,ha⟩
 | 1,_ => exact ⟨b,rfl,hb⟩
 | 2,_ => exact ⟨c,rfl,hc⟩
 | 3,_ => exact ⟨e,rfl,he⟩
 | n + 4,h => exact absurd h (by omega)
def NvR (p ln R D L : Addr) (nm : Str) (room low wide drift ofv mo : Int) (m : Nat) (x11 x14 : V) (H : Hp) (ss : List Str) (vr vl : List V) (kvs : List (Key × V)) (runs : List (List Row)) (rs : List Row) (F : Int -> Prop) : St -> Hp -> Prop := fun σ' H' => ∃ rd : Int,σ' = [some (.ref p),some (.str nm),some (.ref ln),some (.int room),some (.int low),some (.int wide),some (.int drift),some (.int mo),some (.ref R),some (.ref D),some (.int (m : Int)),some x11,some (.int (low + ofv)),some (.ref L),some x14,some (.int rd)] /\ HS H p R D ss room H' vr kvs runs m /\ H' L = some (.lst vl) /\ Paired (RowAt H') vl rs /\ F rd
def PvA (p ln R D : Addr) (nm : Str) (room low wide drift : Int) (H : Hp) (ss : List Str) : Nat -> St -> Hp -> Prop := fun i σ H' => ∃ (mo : Int) (m : Nat) (vr : List V) (kvs : List (Key × V)) (runs : List (List Row)) (o11 o12 o13 o14 o15 : Option V),σ = [some (.ref p),some (.str nm),some (.ref ln),some (.int room),some (.int low),some (.int wide),some (.int drift),some (.int mo),some (.ref R),some (.ref D),some (.int (m : Int)),o11,o12,o13,o14,o15] /\ HS H p R D ss room H' vr kvs runs m /\ runs.flatten.map Prod.fst = ss.take m /\ runs.length <= i
def PvB (p ln R D L : Addr) (nm : Str) (room low wide drift ofv : Int) (H : Hp) (ss : List Str) (i : Nat) (vr : List V) (runs : List (List Row)) : Nat -> St -> Hp -> Prop := fun j σ H'' => ∃ (mo : Int) (m : Nat) (kvs : List (Key × V)) (vl : List V) (rs : List Row) (o14 o15 : Option V),σ = [some (.ref p),some (.str nm),some (.ref ln),some (.int room),some (.int low),some (.int wide),some (.int drift),some (.int mo),some (.ref R),some (.ref D),some (.int (m : Int)),some (.int (0 + (i : Int))),some (.int (low + ofv)),some (.ref L),o14,o15] /\ HS H p R D ss room H'' vr kvs runs m /\ H'' L = some (.lst vl) /\ Paired (RowAt H'') vl rs /\ (runs.flatten ++ rs).map Prod.fst = ss.take m /\ rs.length <= j /\ (rs.map Prod.snd).Pairwise (· < ·)
section
variable {P : Program} {w : World} {K : PySem.W.Frag} {mg : Str -> Option Value} {base : Heap} {t8 t6 tR tL : Tok}
end
end K02
namespace K02
open PySem L2
theorem oNeS {X : Cx} : OpR X (compareOp .NotEq) (fS fun i j => .bl (!decide (i = j))) := by
 intro pins s σ H x y v u Q I rx ry q
 refine op_ne pins s σ H x y v u Q I rx ry ?_
 cases x <;> cases y <;> first
   | exact (show False from q).elim
   | (refine ⟨rfl,?_⟩
      rename_i i j
      have e : decide (V.str i = V.str j) = decide (i = j) := by rw [Bool.eq_iff_iff]; simp
      rw [e]; exact q)
theorem mem_putK {κ : Type} [DecidableEq κ] {kvs : List (κ × V)} {k : κ} {v : V} {x : κ × V} (h : x ∈ putK kvs k v) : x = (k,v) ∨ x ∈ kvs := by
 unfold putK at h
 split at h
 . obtain ⟨y,hy,e⟩ := List.mem_map.mp h
   split at e
   . rename_i c
     exact .inl (by rw [<- e,c])
   . exact .inr (by rw [<- e]; exact hy)
 . rcases List.mem_append.mp h with z | z
   . exact .inr z
   . exact .inl (List.mem_singleton.mp z)
theorem valV_mem {κ : Type} [DecidableEq κ] {kvs : List (κ × V)} {k : κ} (h : k ∈ kvs.map (·.1)) : ∃ v,valV kvs k = some v /\ (k,v) ∈ kvs := by
 induction kvs with
 | nil => simp at h
 | cons x r ih =>
   by_cases e : x.1 = k
   . refine ⟨x.2,valV_pos e,?_⟩
     rw [<- e]; exact List.mem_cons_self
   . rw [List.map_cons] at h
     rcases List.mem_cons.mp h with z | z
     . exact absurd z.symm e
     . obtain ⟨v,h1,h2⟩ := ih z
       exact ⟨v,by rw [valV_neg e]; exact h1,List.mem_cons_of_mem _ h2⟩
def OwnsL (kvs : List (Key × V)) (ps : List (Str × Str)) : Prop := ∀ p ∈ ps,valV kvs (.inr p.1) = some (.str p.2)
theorem OwnsL.put {kvs : List (Key × V)} {ps : List (Str × Str)} {p : Str × Str} (h : OwnsL kvs ps) (n : ∀ q ∈ ps,q.1 ≠ p.1) : OwnsL (putK kvs (.inr p.1) (.str p.2)) (ps ++ [p]) := fun q hq => by
 rw [valV_put]
 rcases List.mem_append.mp hq with z | z
 . rw [if_neg (fun e => n q z (Sum.inr.inj e))]; exact h q z
 . rw [List.mem_singleton.mp z,if_pos rfl]
def FoundOk (hs : List House) (H : Hp) (kf : List (List Key × V)) : Prop := ∀ kv ∈ kf,∃ l : Letter,kv.1 = kP l.1 /\ LetterAt H kv.2 l /\ GoodLetter hs l
theorem FoundOk.keys {hs : List House} {H : Hp} : ∀ {kf : List (List Key × V)},FoundOk hs H kf -> ∃ ks : List (Str × Str),kf.map (·.1) = ks.map kP /\ ks.length = kf.length
 | [],_ => ⟨[],rfl,rfl⟩
 | kv :: r,h => by
   obtain ⟨l,e,_⟩ := h kv List.mem_cons_self
   obtain ⟨ks,e2,e3⟩ := FoundOk.keys (kf := r) fun x hx => h x (List.mem_cons_of_mem _ hx)
   exact ⟨l.1 :: ks,by rw [List.map_cons,List.map_cons,e,e2],by simp [e3]⟩
def pairsR (nm : Str) (r : List Row) : List (Str × Str) := r.map fun x => (x.1,nm)
theorem pairsH_flat (h : House) : pairsH h = h.runs.flatMap (pairsR h.name) := by
 unfold pairsH rowsH pairsR
 rw [List.map_flatten,List.flatMap_def]
theorem owner_of {hs : List House} {kvs : List (Key × V)} {n : Str} (ow : OwnsL kvs (pairsOf hs)) (h : n ∈ namesOf hs) : ∃ hh ∈ hs,n ∈ namesH hh /\ valV kvs (.inr n) = some (.str hh.name) := by
 obtain ⟨hh,m,hn⟩ := List.mem_flatMap.mp h
 refine ⟨hh,m,hn,ow (n,hh.name) (List.mem_flatMap.mpr ⟨hh,m,?_⟩)⟩
 obtain ⟨r,hr,er⟩ := List.mem_map.mp hn
 exact List.mem_map.mpr ⟨r,hr,by rw [er]⟩
theorem names_good {hs : List House} (g : ∀ h ∈ hs,GoodHouse h) {n : Str} (h : n ∈ namesOf hs) : Good n := by
 obtain ⟨hh,m,hn⟩ := List.mem_flatMap.mp h
 obtain ⟨r,hr,er⟩ := List.mem_map.mp hn
 obtain ⟨run,hrun,hr2⟩ := List.mem_flatten.mp hr
 rw [<- er]
 exact ((g hh m).runs run hrun).names r hr2
def spMkLetters : Sp := fun vs H Q _ => ∃ (p lh dh : Addr) (vh : List V) (hs : List House) (kvs : List (Key × V)),vs = [.ref p,.ref lh,.ref dh] /\ PackAt H p /\ H lh = some (.lst vh) /\ Paired (HouseAt H) vh hs /\ hs.length <= 6 /\ (∀ h ∈ hs,GoodHouse h) /\ (namesOf hs).Nodup /\ (namesOf hs).length <= 24 /\
 H dh = some (.dK kvs) /\ kvs.map (·.1) = (namesOf hs).map Sum.inr /\ (∀ n ∈ namesOf hs,∃ i : Int,valV kvs (.inr n) = some (.int i)) /\
 ∀ (x : V) (ls : List Letter) (H' : Hp),LettersAt H' x ls -> GoodLetters hs ls -> PackAt H' p -> SameB p H H' -> Q x H'
def PvC (p lh dh O : Addr) (hs : List House) (H : Hp) : Nat -> St -> Hp -> Prop := fun i σ H' => ∃ (kv : List (Key × V)) (o4 o5 o6 o7 : Option V),σ = [some (.ref p),some (.ref lh),some (.ref dh),some (.ref O),o4,o5,o6,o7,none,none,none,none,none,none,none,none] /\ H' O = some (.dK kv) /\ OwnsL kv (pairsOf (hs.take i)) /\ kv.length <= (pairsOf (hs.take i)).length /\ Same H H'
def PvD (p lh dh O a : Addr) (hs : List House) (hh : House) (i : Nat) (H : Hp) : Nat -> St -> Hp -> Prop := fun j σ H' => ∃ (kv : List (Key × V)) (o5 o6 o7 : Option V),σ = [some (.ref p),some (.ref lh),some (.ref dh),some (.ref O),some (.ref a),o5,o6,o7,none,none,none,none,none,none,none,none] /\ H' O = some (.dK kv) /\ OwnsL kv (pairsOf (hs.take i) ++ (hh.runs.take j).flatMap (pairsR hh.name)) /\ kv.length <= (pairsOf (hs.take i) ++ (hh.runs.take j).flatMap (pairsR hh.name)).length /\ Same H H'
def PvE (p lh dh O a c2 : Addr) (hs : List House) (hh : House) (i j : Nat) (r : List Row) (H : Hp) : Nat -> St -> Hp -> Prop := fun t σ H' => ∃ (kv : List (Key × V)) (o6 o7 : Option V),σ = [some (.ref p),some (.ref lh),some (.ref dh),some (.ref O),some (.ref a),some (.ref c2),o6,o7,none,none,none,none,none,none,none,none] /\ H' O = some (.dK kv) /\ OwnsL kv (pairsOf (hs.take i) ++ (hh.runs.take j).flatMap (pairsR hh.name) ++ (pairsR hh.name r).take t) /\ kv.length <= (pairsOf (hs.take i) ++ (hh.runs.take j).flatMap (pairsR hh.name) ++ (pairsR hh.name r).take t).length /\ Same H H'
def PvF (p lh dh O l8 F : Addr) (hs : List House) (H2 : Hp) : Nat -> St -> Hp -> Prop := fun i σ H' => ∃ (kf : List (List Key × V)) (o4 o5 o6 o7 o10 o11 o12 o13 o14 o15 : Option V),σ = [some (.ref p),some (.ref lh),some (.ref dh),some (.ref O),o4,o5,o6,o7,some (.ref l8),some (.ref F),o10,o11,o12,o13,o14,o15] /\ PackAt H' p /\ SameB p H2 H' /\ H' F = some (.dT kf) /\ kf.length <= i /\ FoundOk hs H' kf
section
variable {P : Program} {w : World} {K : PySem.W.Frag} {mg : Str -> Option Value} {base : Heap} {t8 t6 tR tL : Tok}
end
end K02
namespace K02
open PySem L2
def nmL : List Str := ["me","you","abcdefgh","z"]
theorem nm_good : ∀ s ∈ nmL,Good s := by
 have h : nmL.all (fun s => decide (1 <= s.length) && decide (s.length <= 8) && s.cps.toList.all low) = true := by decide +kernel
 intro s hs
 obtain ⟨h1,h2⟩ := Bool.and_eq_true_iff.mp (List.all_eq_true.mp h s hs)
 obtain ⟨h3,h4⟩ := Bool.and_eq_true_iff.mp h1
 exact ⟨of_decide_eq_true h3,of_decide_eq_true h4,fun c hc => List.all_eq_true.mp h2 c hc⟩
theorem nm_nodup : nmL.Nodup := by decide +kernel
theorem same_new {p : Addr} {H Ha Hb : Hp} (s : Same H Ha) (n : H p = none) (b : SameB p Ha Hb) : Same H Hb := fun c o e => b c o (fun z => by rw [z,n] at e; cases e) (s c o e)
theorem mergeK_app : ∀ (more kvs : List (Key × V)),(more.map (·.1)).Nodup -> (∀ k ∈ more.map (·.1),k ∉ kvs.map (·.1)) -> mergeK kvs more = kvs ++ more
 | [],kvs,_,_ => by rw [List.append_nil]; rfl
 | x :: r,kvs,nd,dj => by
   rw [List.map_cons] at nd dj
   have nd' := List.nodup_cons.mp nd
   show mergeK (putK kvs x.1 x.2) r = _
   rw [putK_new (dj x.1 List.mem_cons_self),mergeK_app r _ nd'.2,List.append_assoc]
   . rfl
   . intro k hk z
     rw [List.map_append] at z
     rcases List.mem_append.mp z with z | z
     . exact dj k (List.mem_cons_of_mem _ hk) z
     . have : k = x.1 := by simpa using z
       exact nd'.1 (by rw [<- this]; exact hk)
theorem valV_app {kvs more : List (Key × V)} {k : Key} : valV (kvs ++ more) k = (valV kvs k).or (valV more k) := by
 unfold valV
 rw [List.find?_append]
 cases kvs.find? (fun kv => decide (kv.1 = k)) <;> rfl
theorem valV_none {kvs : List (Key × V)} {k : Key} (h : k ∉ kvs.map (·.1)) : valV kvs k = none := by
 cases e : valV kvs k with
 | none => rfl
 | some v => exact absurd (valV_in e) h
def spRows : Sp := fun vs H Q _ => ∃ (x : V) (hs : List House) (ls : List Letter),vs = [x] /\ LedgerAt H x hs ls /\ GoodHouses hs /\ ∀ (l : Addr) (ss : List Str) (H' : Hp),H' l = some (.lst (ss.map V.str)) -> Same H H' -> ss.Perm (namesOf hs) -> PyProof.Rows.sortedS ss = true -> Q (.ref l) H'
section
variable {P : Program} {w : World} {K : PySem.W.Frag} {mg : Str -> Option Value} {base : Heap} {t8 t6 tR tL : Tok}
end
end K02
namespace K02
open PySem L2
def rowDa (r : Row) : Da := .tup [.str r.1,.int r.2]
def runDa (rs : List Row) : Da := .tup (rs.map rowDa)
def runsDa (rs : List (List Row)) : Da := .tup (rs.map runDa)
def houseDa (h : House) : Da := .tup [.str h.name,.int h.low,.int h.high,.int h.drift,runsDa h.runs]
def housesDa (hs : List House) : Da := .tup (hs.map houseDa)
def mostDa : Option Int -> Da
 | none => .non
 | some i => .int i
def letterDa (l : Letter) : Da := .tup [.str l.1.1,.str l.1.2,.int l.2.1,mostDa l.2.2]
def lettersDa (ls : List Letter) : Da := .tup (ls.map letterDa)
theorem Good.da {H : Hp} {z : Str} (g : Good z) : DaAt H (.str z) (.str z) := .str z (by have := g.hi; have sl0 : sizeLine = 16777216 := sizeLine_eq; omega)
theorem paired_da {α : Type} {H : Hp} {R : V -> α -> Prop} {f : α -> Da} {vs : List V} {xs : List α} (p : Paired R vs xs) (h : ∀ v x,x ∈ xs -> R v x -> DaAt H v (f x)) : DaAs H vs (xs.map f) := by
 induction p with
 | nil => exact .nil
 | cons r _ ih => exact .cons (h _ _ (List.mem_cons_self ..) r) (ih fun v x hx => h v x (List.mem_cons_of_mem _ hx))
section
variable {H : Hp} {v : V}
theorem RowAt.da {r : Row} (h : RowAt H v r) (g : Good r.1) : DaAt H v (rowDa r) := by
 obtain ⟨a,rfl,e⟩ := h
 exact .tup e (show 2 <= 25 by decide) (.cons g.da (.cons (.int _) .nil))
theorem RunAt.da {r : List Row} (h : RunAt H v r) (g : GoodRun r) : DaAt H v (runDa r) := by
 obtain ⟨a,vs,rfl,e,p⟩ := h
 exact .tup e (by rw [p.length]; exact g.few) (paired_da p fun v x hx q => q.da (g.names x hx))
theorem RunsAt.da {rs : List (List Row)} (h : RunsAt H v rs) (few : rs.length <= 25) (g : ∀ r ∈ rs,GoodRun r) : DaAt H v (runsDa rs) := by
 obtain ⟨a,vs,rfl,e,p⟩ := h
 exact .tup e (by rw [p.length]; exact few) (paired_da p fun v x hx q => q.da (g x hx))
theorem HouseAt.da {h : House} (a : HouseAt H v h) (g : GoodHouse h) : DaAt H v (houseDa h) := by
 obtain ⟨a,b,rfl,e,p⟩ := a
 exact .tup e (show 5 <= 25 by decide) (.cons g.name.da (.cons (.int _) (.cons (.int _) (.cons (.int _) (.cons (p.da g.few g.runs) .nil)))))
theorem HousesAt.da {hs : List House} (a : HousesAt H v hs) (few : hs.length <= 25) (g : ∀ h ∈ hs,GoodHouse h) : DaAt H v (housesDa hs) := by
 obtain ⟨a,vs,rfl,e,p⟩ := a
 exact .tup e (by rw [p.length]; exact few) (paired_da p fun v x hx q => q.da (g x hx))
theorem most_da {m : Option Int} : DaAt H (mostV m) (mostDa m) := by
 cases m with
 | none => exact .non
 | some i => exact .int i
theorem LetterAt.da {l : Letter} (h : LetterAt H v l) (g1 : Good l.1.1) (g2 : Good l.1.2) : DaAt H v (letterDa l) := by
 obtain ⟨a,rfl,e⟩ := h
 exact .tup e (show 4 <= 25 by decide) (.cons g1.da (.cons g2.da (.cons (.int _) (.cons most_da .nil))))
theorem LettersAt.da {ls : List Letter} (h : LettersAt H v ls) (few : ls.length <= 25) (g : ∀ l ∈ ls,Good l.1.1 /\ Good l.1.2) : DaAt H v (lettersDa ls) := by
 obtain ⟨a,vs,rfl,e,p⟩ := h
 exact .tup e (by rw [p.length]; exact few) (paired_da p fun v x hx q => q.da (g x hx).1 (g x hx).2)
end
theorem named_da {r : Row} (g : Good r.1) : namedD (rowDa r) = true := by
 show (isND (.str r.1) && isWD (.int r.2)) = true
 rw [show isND (.str r.1) = true from g.isN]
 rfl
theorem LedgerAt.da {H : Hp} {v : V} {hs : List House} {ls : List Letter} (h : LedgerAt H v hs ls) (gh : GoodHouses hs) (g : GoodLetters hs ls) : DaAt H v (.tup [housesDa hs,lettersDa ls]) := by
 obtain ⟨a,x,y,rfl,e,h1,h2⟩ := h
 exact .tup e (show 2 <= 25 by decide) (.cons (h1.da (by have := gh.hi; omega) gh.all) (.cons (h2.da (by have := g.few; omega) fun l hl => ⟨(g.all l hl).sent,(g.all l hl).taken⟩) .nil))
end K02
namespace K02
open PySem L2
structure TD (te : TE) (σ : St) (H : Hp) (d : Da) : Prop where
 r : ∀ H1,Same H H1 -> ∀ Q : VK,(∀ v H2,Same H1 H2 -> DaAt H2 v d -> Q v H2) -> te σ H1 Q
theorem TD.use {te : TE} {σ : St} {H : Hp} {d : Da} (h : TD te σ H d) {H1 : Hp} (s : Same H H1) {Q : VK} (q : ∀ v H2,Same H1 H2 -> DaAt H2 v d -> Q v H2) : te σ H1 Q := h.r H1 s Q q
structure TDs (ta : TA) (σ : St) (H : Hp) (ds : List Da) : Prop where
 r : ∀ H1,Same H H1 -> ∀ Q : List V -> Hp -> Prop,(∀ vs H2,Same H1 H2 -> DaAs H2 vs ds -> Q vs H2) -> ta σ H1 Q
structure TPo (tl : TO) (σ : St) (H : Hp) (o : Option Int) : Prop where
 r : ∀ H1,Same H H1 -> ∀ Q : Option Int -> Hp -> Prop,(∀ H2,Same H1 H2 -> Q o H2) -> tl σ H1 Q
theorem DaAs.app {H : Hp} : ∀ {vs ws : List V} {xs ys : List Da},DaAs H vs xs -> DaAs H ws ys -> DaAs H (vs ++ ws) (xs ++ ys)
 | _,_,_,_,.nil,q => q
 | _,_,_,_,.cons h r,q => .cons h (DaAs.app r q)
theorem DaAs.takeD {H : Hp} : ∀ {vs : List V} {xs : List Da} (n : Nat),DaAs H vs xs -> DaAs H (vs.take n) (xs.take n)
 | _,_,0,_ => by rw [List.take_zero,List.take_zero]; exact .nil
 | _,_,n + 1,.nil => .nil
 | _,_,n + 1,.cons h r => .cons h (DaAs.takeD n r)
theorem DaAs.dropD {H : Hp} : ∀ {vs : List V} {xs : List Da} (n : Nat),DaAs H vs xs -> DaAs H (vs.drop n) (xs.drop n)
 | _,_,0,h => by rw [List.drop_zero,List.drop_zero]; exact h
 | _,_,n + 1,.nil => .nil
 | _,_,n + 1,.cons h r => DaAs.dropD n r
section
variable {σ : St} {H : Hp} {te ta tb : TE} {ts : TA} {d : Da} {ds xs ys : List Da} {i j : Int} {tl th : TO} {lo hi : Option Int} {K : PySem.W.Frag}
theorem td_int : TD (tC (.int i)) σ H (.int i) := ⟨fun H1 _ _ q => q _ H1 (Same.refl _) (.int i)⟩
theorem td_non : TD (tC .non) σ H .non := ⟨fun H1 _ _ q => q _ H1 (Same.refl _) .non⟩
theorem td_str {z : Str} (h : z.length <= 1000) : TD (tC (.str z)) σ H (.str z) := ⟨fun H1 _ _ q => q _ H1 (Same.refl _) (.str z (by have sl0 : sizeLine = 16777216 := sizeLine_eq; omega))⟩
theorem td_v {k : Nat} {v : V} (e : σ[k]? = some (some v)) (h : DaAt H v d) : TD (tV k) σ H d := ⟨fun H1 s Q q => by
 unfold tV
 rw [e]
 exact q v H1 (Same.refl _) (h.same s)⟩
theorem td_v0 {v : V} {r : St} (h : DaAt H v d) : TD (tV 0) (some v :: r) H d := td_v rfl h
theorem td_v1 {v : V} {r : St} {o0 : Option V} (h : DaAt H v d) : TD (tV 1) (o0 :: some v :: r) H d := td_v rfl h
theorem td_v2 {v : V} {r : St} {o0 o1 : Option V} (h : DaAt H v d) : TD (tV 2) (o0 :: o1 :: some v :: r) H d := td_v rfl h
theorem td_v3 {v : V} {r : St} {o0 o1 o2 : Option V} (h : DaAt H v d) : TD (tV 3) (o0 :: o1 :: o2 :: some v :: r) H d := td_v rfl h
theorem td_v4 {v : V} {r : St} {o0 o1 o2 o3 : Option V} (h : DaAt H v d) : TD (tV 4) (o0 :: o1 :: o2 :: o3 :: some v :: r) H d := td_v rfl h
theorem td_v5 {v : V} {r : St} {o0 o1 o2 o3 o4 : Option V} (h : DaAt H v d) : TD (tV 5) (o0 :: o1 :: o2 :: o3 :: o4 :: some v :: r) H d := td_v rfl h
theorem td_v6 {v : V} {r : St} {o0 o1 o2 o3 o4 o5 : Option V} (h : DaAt H v d) : TD (tV 6) (o0 :: o1 :: o2 :: o3 :: o4 :: o5 :: some v :: r) H d := td_v rfl h
theorem td_v7 {v : V} {r : St} {o0 o1 o2 o3 o4 o5 o6 : Option V} (h : DaAt H v d) : TD (tV 7) (o0 :: o1 :: o2 :: o3 :: o4 :: o5 :: o6 :: some v :: r) H d := td_v rfl h
theorem td_v8 {v : V} {r : St} {o0 o1 o2 o3 o4 o5 o6 o7 : Option V} (h : DaAt H v d) : TD (tV 8) (o0 :: o1 :: o2 :: o3 :: o4 :: o5 :: o6 :: o7 :: some v :: r) H d := td_v rfl h
theorem td_v9 {v : V} {r : St} {o0 o1 o2 o3 o4 o5 o6 o7 o8 : Option V} (h : DaAt H v d) : TD (tV 9) (o0 :: o1 :: o2 :: o3 :: o4 :: o5 :: o6 :: o7 :: o8 :: some v :: r) H d := td_v rfl h
theorem td_v10 {v : V} {r : St} {o0 o1 o2 o3 o4 o5 o6 o7 o8 o9 : Option V} (h : DaAt H v d) : TD (tV 10) (o0 :: o1 :: o2 :: o3 :: o4 :: o5 :: o6 :: o7 :: o8 :: o9 :: some v :: r) H d := td_v rfl h
theorem td_v11 {v : V} {r : St} {o0 o1 o2 o3 o4 o5 o6 o7 o8 o9 o10 : Option V} (h : DaAt H v d) : TD (tV 11) (o0 :: o1 :: o2 :: o3 :: o4 :: o5 :: o6 :: o7 :: o8 :: o9 :: o10 :: some v :: r) H d := td_v rfl h
theorem td_v12 {v : V} {r : St} {o0 o1 o2 o3 o4 o5 o6 o7 o8 o9 o10 o11 : Option V} (h : DaAt H v d) : TD (tV 12) (o0 :: o1 :: o2 :: o3 :: o4 :: o5 :: o6 :: o7 :: o8 :: o9 :: o10 :: o11 :: some v :: r) H d := td_v rfl h
theorem td_v13 {v : V} {r : St} {o0 o1 o2 o3 o4 o5 o6 o7 o8 o9 o10 o11 o12 : Option V} (h : DaAt H v d) : TD (tV 13) (o0 :: o1 :: o2 :: o3 :: o4 :: o5 :: o6 :: o7 :: o8 :: o9 :: o10 :: o11 :: o12 :: some v :: r) H d := td_v rfl h
theorem td_v14 {v : V} {r : St} {o0 o1 o2 o3 o4 o5 o6 o7 o8 o9 o10 o11 o12 o13 : Option V} (h : DaAt H v d) : TD (tV 14) (o0 :: o1 :: o2 :: o3 :: o4 :: o5 :: o6 :: o7 :: o8 :: o9 :: o10 :: o11 :: o12 :: o13 :: some v :: r) H d := td_v rfl h
theorem td_v15 {v : V} {r : St} {o0 o1 o2 o3 o4 o5 o6 o7 o8 o9 o10 o11 o12 o13 o14 : Option V} (h : DaAt H v d) : TD (tV 15) (o0 :: o1 :: o2 :: o3 :: o4 :: o5 :: o6 :: o7 :: o8 :: o9 :: o10 :: o11 :: o12 :: o13 :: o14 :: some v :: r) H d := td_v rfl h
theorem tds_nil : TDs tNil σ H [] := ⟨fun H1 _ _ q => q [] H1 (Same.refl _) .nil⟩
theorem tds_cons (h : TD te σ H d) (r : TDs ts σ H ds) : TDs (tCons te ts) σ H (d :: ds) := ⟨fun H1 s Q q =>
 h.r H1 s _ fun v H2 s2 hv => r.r H2 (s.trans s2) _ fun vs H3 s3 hvs => q _ H3 (s2.trans s3) (.cons (hv.same s3) hvs)⟩
theorem td_tup (h : TDs ts σ H ds) (few : ds.length <= 25) : TD (tTup ts) σ H (.tup ds) := ⟨fun H1 s Q q =>
 h.r H1 s _ fun vs H2 s2 hvs => ⟨by have sl0 : sizeLine = 16777216 := sizeLine_eq; have := hvs.len; omega,fun p hp => q _ _ (s2.upd hp) (.tup upd_same (by rw [hvs.len]; exact few) (hvs.same ((Same.refl H2).upd hp)))⟩⟩
theorem td_add (ha : TD ta σ H (.int i)) (hb : TD tb σ H (.int j)) : TD (tOp (fI fun i j => .int (i + j)) ta tb) σ H (.int (i + j)) := ⟨fun H1 s Q q =>
 ha.r H1 s _ fun v H2 s2 hv => by
   cases hv
   exact hb.r H2 (s.trans s2) _ fun v H3 s3 hv => by cases hv; exact q _ H3 (s2.trans s3) (.int _)⟩
theorem td_add1 {k : Nat} (ha : TD ta σ H (.int (k : Int))) : TD (tOp (fI fun i j => .int (i + j)) ta (tC (.int 1))) σ H (.int ((k + 1 : Nat) : Int)) := td_add ha td_int
theorem td_sub (ha : TD ta σ H (.int i)) (hb : TD tb σ H (.int j)) : TD (tOp (fI fun i j => .int (i - j)) ta tb) σ H (.int (i - j)) := ⟨fun H1 s Q q =>
 ha.r H1 s _ fun v H2 s2 hv => by
   cases hv
   exact hb.r H2 (s.trans s2) _ fun v H3 s3 hv => by cases hv; exact q _ H3 (s2.trans s3) (.int _)⟩
theorem td_cat (ha : TD ta σ H (.tup xs)) (hb : TD tb σ H (.tup ys)) (few : xs.length + ys.length <= 25) : TD (tOp CatA ta tb) σ H (.tup (xs ++ ys)) := ⟨fun H1 s Q q =>
 ha.r H1 s _ fun v H2 s2 hv => hb.r H2 (s.trans s2) _ fun w H3 s3 hw => by
   obtain ⟨a,vs,rfl,ea,la,ra⟩ := (hv.same s3).tupE
   obtain ⟨b,ws,rfl,eb,lb,rb⟩ := hw.tupE
   have sl0 : sizeLine = 16777216 := sizeLine_eq
   have l1 := ra.len
   have l2 := rb.len
   exact ⟨a,b,vs,ws,rfl,rfl,ea,eb,by omega,fun p H4 hp s4 => q _ H4 ((s2.trans s3).trans s4) (.tup hp (by rw [List.length_append]; omega) ((ra.app rb).same s4))⟩⟩
theorem tpo_none : TPo tNoPart σ H none := ⟨fun H1 _ _ q => q H1 (Same.refl _)⟩
theorem tpo_i (h : TD te σ H (.int i)) : TPo (tPartF te) σ H (some i) := ⟨fun H1 s Q q => h.r H1 s _ fun v H2 s2 hv => by cases hv; exact q H2 s2⟩
theorem td_sl (h : TD te σ H (.tup xs)) (hl : TPo tl σ H lo) (hh : TPo th σ H hi) : TD (tSl SlA te tl th) σ H (.tup ((xs.drop (HT.sIx xs.length 0 lo)).take (HT.sIx xs.length xs.length hi - HT.sIx xs.length 0 lo))) := ⟨fun H1 s Q q =>
 h.r H1 s _ fun v H2 s2 hv => hl.r H2 (s.trans s2) _ fun H3 s3 => hh.r H3 ((s.trans s2).trans s3) _ fun H4 s4 => by
   obtain ⟨a,vs,rfl,ea,la,ra⟩ := (hv.same (s3.trans s4)).tupE
   refine ⟨a,vs,rfl,ea,fun p H5 hp s5 => q _ H5 (((s2.trans s3).trans s4).trans s5) (.tup hp (Nat.le_trans (cutV_length _ _ _) la) ?_)⟩
   unfold cutV
   rw [ra.len]
   exact ((ra.dropD _).takeD _).same s5⟩
theorem td_to {k : Nat} (h : TD te σ H (.tup xs)) (hh : TPo th σ H (some (k : Int))) : TD (tSl SlA te tNoPart th) σ H (.tup (xs.take k)) := by
 have z := td_sl h tpo_none hh
 rw [HT.sIx_none,HT.sIx_nat,List.drop_zero,Nat.sub_zero] at z
 rw [show xs.take k = xs.take (min k xs.length) from by rw [List.take_eq_take_iff]; omega]
 exact z
theorem td_from {k : Nat} (h : TD te σ H (.tup xs)) (hl : TPo tl σ H (some (k : Int))) : TD (tSl SlA te tl tNoPart) σ H (.tup (xs.drop k)) := by
 have z := td_sl h hl tpo_none
 rw [HT.sIx_none,HT.sIx_nat] at z
 have e : (xs.drop (min k xs.length)).take (xs.length - min k xs.length) = xs.drop k := by
   rw [List.take_of_length_le (by rw [List.length_drop]; omega)]
   by_cases hk : k <= xs.length
   . rw [Nat.min_eq_left hk]
   . rw [List.drop_of_length_le (by omega),List.drop_of_length_le (by omega)]
 rw [e] at z
 exact z
end
structure Kp (H H' : Hp) : Prop where
 tup : ∀ b xs,H b = some (.tup xs) -> H' b = some (.tup xs)
 lst : ∀ b xs,H b = some (.lst xs) -> ∃ ys,H' b = some (.lst ys)
 dic : ∀ b ks,H b = some (.dK ks) -> ∃ k2,H' b = some (.dK k2)
theorem Kp.of {H H' : Hp} (s : Same H H') : Kp H H' := ⟨fun _ _ h => s _ _ h,fun _ _ h => ⟨_,s _ _ h⟩,fun _ _ h => ⟨_,s _ _ h⟩⟩
theorem Kp.trans {H H1 H2 : Hp} (a : Kp H H1) (b : Kp H1 H2) : Kp H H2 := ⟨fun _ _ h => b.tup _ _ (a.tup _ _ h),fun _ _ h => let ⟨_,z⟩ := a.lst _ _ h; b.lst _ _ z,fun _ _ h => let ⟨_,z⟩ := a.dic _ _ h; b.dic _ _ z⟩
theorem Kp.put {H : Hp} {a : Addr} {xs ys : List V} (h : H a = some (.lst xs)) : Kp H (upd H a (.lst ys)) := by
 refine ⟨fun b zs e => ?_,fun b zs e => ?_,fun b zs e => ?_⟩
 . rw [upd_ne (fun z => by rw [z,h] at e; cases e)]; exact e
 . by_cases z : b = a
   . subst z; exact ⟨ys,upd_same⟩
   . exact ⟨zs,by rw [upd_ne z]; exact e⟩
 . exact ⟨zs,by rw [upd_ne (fun z => by rw [z,h] at e; cases e)]; exact e⟩
mutual
theorem DaAt.kp {H H' : Hp} (s : Kp H H') : ∀ {v : V} {d : Da},DaAt H v d -> DaAt H' v d
 | _,_,.non => .non
 | _,_,.bl b => .bl b
 | _,_,.int i => .int i
 | _,_,.str z h => .str z h
 | _,_,.tup h l r => .tup (s.tup _ _ h) l (DaAs.kp s r)
 | _,_,.lst h => let ⟨_,z⟩ := s.lst _ _ h; .lst z
 | _,_,.dic h => let ⟨_,z⟩ := s.dic _ _ h; .dic z
theorem DaAs.kp {H H' : Hp} (s : Kp H H') : ∀ {v : List V} {d : List Da},DaAs H v d -> DaAs H' v d
 | _,_,.nil => .nil
 | _,_,.cons h r => .cons (DaAt.kp s h) (DaAs.kp s r)
end
section
variable {σ : St} {H : Hp} {te : TE} {ts : TA} {ds ods : List Da} {K : PySem.W.Frag}
end
end K02
namespace K02
open PySem L2
section
variable {σ : St} {H : Hp} {te : TE} {ts : TA} {ds ods : List Da} {K : PySem.W.Frag} {D : Ends} {t u : TS}
theorem asg_s {g : TG} (h : te σ H fun x H1 => g x σ H1 (u D)) : tSeq (tAsg te g) u D σ H := h
theorem asg_h {g : TG} (h : ∀ U : St -> Hp -> Prop,U = u D -> te σ H fun x H1 => g x σ H1 U) : tSeq (tAsg te g) u D σ H := h (u D) rfl
end
section
variable {n l h d r : Da}
end
theorem runs_few {hs : List House} {h : House} (g : GoodHouses hs) (m : h ∈ hs) : h.runs.length <= 24 := by
 have z := g.few
 have gh := g.all h m
 have key : ∀ rs : List (List Row),(∀ r ∈ rs,r ≠ []) -> rs.length <= rs.flatten.length := by
   intro rs
   induction rs with
   | nil => intro _; exact Nat.le_refl _
   | cons r rs ih =>
     intro hh
     have h1 := ih fun x hx => hh x (List.mem_cons_of_mem _ hx)
     have h2 : r.length ≠ 0 := fun e => hh r List.mem_cons_self (List.eq_nil_of_length_eq_zero e)
     rw [List.flatten_cons,List.length_append,List.length_cons]
     omega
 have k1 := key h.runs fun r hr => (gh.runs r hr).ne
 have k2 : (namesH h).length <= (namesOf hs).length := by
   unfold namesOf
   obtain ⟨a,b,e⟩ := List.append_of_mem m
   rw [e,List.flatMap_append,List.flatMap_cons,List.length_append,List.length_append]
   omega
 unfold namesH rowsH at k2
 rw [List.length_map] at k2
 omega
end K02
namespace K02
open PySem L2
section
variable {g : BI -> TG} {te : BI -> TE} {σ0 : St} {D : Addr} {End : Hp -> Prop} {H1 : Hp}
end
def spIs : Sp := fun vs H Q _ => ∃ b c : Bool,vs = [.bl b,.bl c] /\ Q (.bl (b == c)) H
section
variable {P : Program} {w : World} {K : PySem.W.Frag} {mg : Str -> Option Value} {base : Heap} {t8 t6 tR tL : Tok}
end
end K02
namespace K02
open PySem L2
section
variable {P : Program} {w : World} {K : PySem.W.Frag} {mg : Str -> Option Value} {base : Heap} {t8 t6 tR tL : Tok}
end
end K02
namespace K02
open PySem L2
section
variable {hs : List House} {s t l m : Da} {xs : List Da}
end
section
variable {P : Program} {w : World} {K : PySem.W.Frag} {mg : Str -> Option Value} {base : Heap} {t8 t6 tR tL : Tok}
end
end K02
namespace K02
open PySem L2
section
variable {P : Program} {w : World} {K : PySem.W.Frag} {mg : Str -> Option Value} {base : Heap} {t8 t6 tR tL : Tok}
end
end K02
namespace K02
open PySem L2
theorem kp_take {p : Addr} {H H' : Hp} (h : PackAt H p) (h' : PackAt H' p) (s : SameB p H H') : Kp H H' := by
 obtain ⟨n,e,_⟩ := h
 obtain ⟨n',e',_⟩ := h'
 refine ⟨fun b xs z => s b _ (fun w => by rw [w,e] at z; cases z) z,fun b xs z => ?_,fun b ks z => ⟨_,s b _ (fun w => by rw [w,e] at z; cases z) z⟩⟩
 by_cases w : b = p
 . subst w; exact ⟨_,e'⟩
 . exact ⟨_,s b _ w z⟩
theorem paired_of {α : Type} {H : Hp} {R : V -> α -> Prop} {f : α -> Da} : ∀ {vs : List V} {xs : List α},DaAs H vs (xs.map f) -> (∀ v x,DaAt H v (f x) -> R v x) -> Paired R vs xs
 | [],[],.nil,_ => .nil
 | _ :: _,_ :: _,.cons h r,k => .cons (k _ _ h) (paired_of r k)
section
variable {H : Hp} {v : V}
theorem RowAt.off {r : Row} (h : DaAt H v (rowDa r)) : RowAt H v r := by
 obtain ⟨a,vs,rfl,e,_,rr⟩ := h.tupE
 obtain ⟨_,_,rfl,q1,q2⟩ := rr.two
 cases q1; cases q2; exact ⟨a,rfl,e⟩
theorem RunAt.off {r : List Row} (h : DaAt H v (runDa r)) : RunAt H v r := by
 obtain ⟨a,vs,rfl,e,_,rr⟩ := h.tupE
 exact ⟨a,vs,rfl,e,paired_of rr fun _ _ => RowAt.off⟩
theorem RunsAt.off {r : List (List Row)} (h : DaAt H v (runsDa r)) : RunsAt H v r := by
 obtain ⟨a,vs,rfl,e,_,rr⟩ := h.tupE
 exact ⟨a,vs,rfl,e,paired_of rr fun _ _ => RunAt.off⟩
theorem HouseAt.off {h : House} (d : DaAt H v (houseDa h)) : HouseAt H v h := by
 obtain ⟨a,vs,rfl,e,_,rr⟩ := d.tupE
 obtain ⟨_,_,_,_,b,rfl,q1,q2,q3,q4,q5⟩ := rr.five
 cases q1; cases q2; cases q3; cases q4; exact ⟨a,b,rfl,e,RunsAt.off q5⟩
theorem HousesAt.off {hs : List House} (d : DaAt H v (housesDa hs)) : HousesAt H v hs := by
 obtain ⟨a,vs,rfl,e,_,rr⟩ := d.tupE
 exact ⟨a,vs,rfl,e,paired_of rr fun _ _ => HouseAt.off⟩
theorem most_off {m : Option Int} (h : DaAt H v (mostDa m)) : v = mostV m := by
 cases m <;> cases h <;> rfl
theorem LetterAt.off {l : Letter} (d : DaAt H v (letterDa l)) : LetterAt H v l := by
 obtain ⟨a,vs,rfl,e,_,rr⟩ := d.tupE
 obtain ⟨_,_,_,b,rfl,q1,q2,q3,q4⟩ := rr.four
 cases q1; cases q2; cases q3; cases most_off q4; exact ⟨a,rfl,e⟩
theorem LettersAt.off {ls : List Letter} (d : DaAt H v (lettersDa ls)) : LettersAt H v ls := by
 obtain ⟨a,vs,rfl,e,_,rr⟩ := d.tupE
 exact ⟨a,vs,rfl,e,paired_of rr fun _ _ => LetterAt.off⟩
end
section
variable {g : BI -> TG} {te : BI -> TE} {σ0 : St} {D : Addr} {End : Hp -> Prop} {H1 : Hp}
theorem comp_tupD {K : PySem.W.Frag} {a : Addr} {xs : List V} {ds : List Da} {f : Da -> Da} (hD : H1 D = none) (ha : H1 a = some (.tup xs)) (hx : DaAs H1 xs ds) (few : ds.length <= 1000)
   (turn : ∀ (x : V) (d : Da) (H' : Hp),d ∈ ds -> DaAt H' x d -> Same H1 H' -> ∀ b (R : VK),(∀ v H'',Same H' H'' -> DaAt H'' v (f d) -> R v H'') -> g b x σ0 H' fun σ2 H2 => te b σ2 H2 R)
   (fin : ∀ vs H',Same H1 H' -> H' D = some (.lst vs) -> DaAs H' vs (ds.map f) -> End H') :
   ∃ W : Nat -> Nat -> Hp -> Prop,(∃ m,W 0 m (upd H1 D (.lst []))) /\ ∀ b,CTurn (Itt K a) (g b) (tYes) (aPut D (te b)) σ0 End W :=
 comp_tup (xs := xs) (fun i H' => ∃ vs,H' D = some (.lst vs) /\ Same H1 H' /\ DaAs H' vs ((ds.take i).map f)) ⟨[],upd_same,(Same.refl H1).upd hD,.nil⟩ (fun i H' _ ⟨_,_,s,_⟩ => SqT.of (s _ _ ha)) (fun H' ⟨vs,e,s,h⟩ => fin vs H' s e (by rw [hx.len,List.take_length] at h; exact h)) (fun i x H' hi hlt ⟨vs,e,s,h⟩ b => by
   obtain ⟨d,hd,hxd⟩ := hx.get hi
   refine turn x d H' (List.mem_of_getElem? hd) (hxd.same s) s b _ fun v H'' s2 hv => ⟨vs,s2 _ _ e,by have sl0 : sizeLine = 16777216 := sizeLine_eq; have := h.len; rw [List.length_map,List.length_take] at this; omega,nx hlt ?_⟩
   refine ⟨vs ++ [v],upd_same,fun c u z => by rw [upd_ne (ne_of_none z hD)]; exact (s.trans s2) c u z,?_⟩
   have z : (ds.take (i + 1)).map f = (ds.take i).map f ++ [f d] := by rw [List.take_add_one,hd,List.map_append]; rfl
   rw [z]
   exact ((h.same s2).app (.cons hv .nil)).kp (Kp.put (s2 _ _ e)))
end
def putH {α : Type} (l : List α) (k : Nat) (x : α) : List α := l.take k ++ [x] ++ l.drop (k + 1)
theorem putH_split {α : Type} {l : List α} {k : Nat} {y : α} (h : l[k]? = some y) : l = l.take k ++ [y] ++ l.drop (k + 1) := by
 obtain ⟨li,fi⟩ := List.getElem?_eq_some_iff.mp h
 rw [List.append_assoc,List.singleton_append,<- fi,List.getElem_cons_drop,List.take_append_drop]
theorem putH_len {α : Type} {l : List α} {k : Nat} {x y : α} (h : l[k]? = some y) : (putH l k x).length = l.length := by
 conv => rhs; rw [putH_split h]
 unfold putH
 simp
theorem putH_map {α β : Type} {f : α -> β} {l : List α} {k : Nat} {x y : α} (h : l[k]? = some y) (e : f x = f y) : (putH l k x).map f = l.map f := by
 conv => rhs; rw [putH_split h]
 unfold putH
 simp [e]
theorem putH_flat {α β : Type} {f : α -> List β} {l : List α} {k : Nat} {x y : α} (h : l[k]? = some y) (e : f x = f y) : (putH l k x).flatMap f = l.flatMap f := by
 conv => rhs; rw [putH_split h]
 unfold putH
 simp [e]
theorem putH_mem {α : Type} {l : List α} {k : Nat} {x z : α} (h : z ∈ putH l k x) : z ∈ l ∨ z = x := by
 unfold putH at h
 rw [List.mem_append,List.mem_append,List.mem_singleton] at h
 rcases h with (h | h) | h
 . exact .inl (List.mem_of_mem_take h)
 . exact .inr h
 . exact .inl (List.mem_of_mem_drop h)
theorem putH_keep {α : Type} {l : List α} {k : Nat} {x y z : α} (h : l[k]? = some y) (m : z ∈ l) : z = y ∨ z ∈ putH l k x := by
 rw [putH_split h,List.mem_append,List.mem_append,List.mem_singleton] at m
 unfold putH
 rw [List.mem_append,List.mem_append]
 rcases m with (m | m) | m
 . exact .inr (.inl (.inl m))
 . exact .inl m
 . exact .inr (.inr m)
theorem putH_in {α : Type} {l : List α} {k : Nat} {x : α} : x ∈ putH l k x := by
 unfold putH
 rw [List.mem_append,List.mem_append]
 exact .inl (.inr (List.mem_singleton.mpr rfl))
theorem good_put {hs : List House} {k : Nat} {h h' : House} (g : GoodHouses hs) (e : hs[k]? = some h) (n : h'.name = h.name) (m : namesH h' = namesH h) (gh : GoodHouse h') : GoodHouses (putH hs k h') /\ namesOf (putH hs k h') = namesOf hs := by
 have e1 : namesOf (putH hs k h') = namesOf hs := putH_flat e m
 exact ⟨⟨by rw [putH_len e]; exact g.lo,by rw [putH_len e]; exact g.hi,fun z hz => (putH_mem hz).elim (g.all z) (fun w => w ▸ gh),by rw [putH_map e n]; exact g.names,by rw [e1]; exact g.rows,by rw [e1]; exact g.few⟩,e1⟩
theorem letters_put {hs : List House} {ls : List Letter} {k : Nat} {h h' : House} (g : GoodLetters hs ls) (e : hs[k]? = some h) (n : h'.name = h.name) (m : namesH h' = namesH h) : GoodLetters (putH hs k h') ls := by
 refine ⟨g.few,fun l hl => ?_,g.rise⟩
 obtain ⟨g1,g2,g3,g4,h1,m1,h2,m2,n1,n2,ne⟩ := g.all l hl
 have w : ∀ z ∈ hs,∃ z' ∈ putH hs k h',namesH z' = namesH z /\ z'.name = z.name := fun z hz => by
   rcases putH_keep (x := h') e hz with q | q
   . subst q; exact ⟨h',putH_in,m,n⟩
   . exact ⟨z,q,rfl,rfl⟩
 obtain ⟨z1,q1,a1,b1⟩ := w h1 m1
 obtain ⟨z2,q2,a2,b2⟩ := w h2 m2
 exact ⟨g1,g2,g3,g4,z1,q1,z2,q2,by rw [a1]; exact n1,by rw [a2]; exact n2,by rw [b1,b2]; exact ne⟩
theorem letter_put {hs : List House} {ls : List Letter} {k : Nat} {l l' : Letter} (g : GoodLetters hs ls) (e : ls[k]? = some l) (n : l'.1 = l.1) (h1 : 1 <= l'.2.1) (h2 : ∀ m,l'.2.2 = some m -> l'.2.1 <= m) : GoodLetters hs (putH ls k l') := by
 refine ⟨by rw [putH_len e]; exact g.few,fun z hz => ?_,by rw [putH_map e n]; exact g.rise⟩
 rcases putH_mem hz with q | q
 . exact g.all z q
 . subst q
   have gl := g.all l (List.mem_of_getElem? e)
   refine ⟨by rw [n]; exact gl.sent,by rw [n]; exact gl.taken,h1,h2,?_⟩
   rw [n]
   exact gl.houses
theorem run_moved {rs : List Row} (g : GoodRun rs) (m : Int) : GoodRun (rs.map fun r => (r.1,r.2 + m)) := by
 refine ⟨fun z => g.ne (List.map_eq_nil_iff.mp z),by rw [List.length_map]; exact g.few,fun r hr => ?_,?_⟩
 . obtain ⟨x,hx,rfl⟩ := List.mem_map.mp hr
   exact g.names x hx
 . have := g.rise
   rw [List.pairwise_map] at this
   rw [List.map_map,List.pairwise_map]
   exact this.imp fun {a b} z => by show a.2 + m < b.2 + m; omega
theorem runs_moved {h : House} {k : Nat} {r r' : List Row} (e : h.runs[k]? = some r) (n : r'.map Prod.fst = r.map Prod.fst) : ((putH h.runs k r').flatten).map Prod.fst = (h.runs.flatten).map Prod.fst := by
 rw [List.map_flatten,List.map_flatten,putH_map e n]
theorem td_v16 {H : Hp} {d : Da} {v : V} {r : St} {o0 o1 o2 o3 o4 o5 o6 o7 o8 o9 o10 o11 o12 o13 o14 o15 : Option V} (h : DaAt H v d) : TD (tV 16) (o0 :: o1 :: o2 :: o3 :: o4 :: o5 :: o6 :: o7 :: o8 :: o9 :: o10 :: o11 :: o12 :: o13 :: o14 :: o15 :: some v :: r) H d := td_v rfl h
theorem td_v17 {H : Hp} {d : Da} {v : V} {r : St} {o0 o1 o2 o3 o4 o5 o6 o7 o8 o9 o10 o11 o12 o13 o14 o15 o16 : Option V} (h : DaAt H v d) : TD (tV 17) (o0 :: o1 :: o2 :: o3 :: o4 :: o5 :: o6 :: o7 :: o8 :: o9 :: o10 :: o11 :: o12 :: o13 :: o14 :: o15 :: o16 :: some v :: r) H d := td_v rfl h
theorem td_v18 {H : Hp} {d : Da} {v : V} {r : St} {o0 o1 o2 o3 o4 o5 o6 o7 o8 o9 o10 o11 o12 o13 o14 o15 o16 o17 : Option V} (h : DaAt H v d) : TD (tV 18) (o0 :: o1 :: o2 :: o3 :: o4 :: o5 :: o6 :: o7 :: o8 :: o9 :: o10 :: o11 :: o12 :: o13 :: o14 :: o15 :: o16 :: o17 :: some v :: r) H d := td_v rfl h
section
variable {P : Program} {w : World} {K : PySem.W.Frag} {mg : Str -> Option Value} {base : Heap} {t8 t6 tR tL : Tok}
end
end K02
namespace K02
open PySem L2
section
variable {g : BI -> TG} {te : BI -> TE} {σ0 : St} {D : Addr} {End : Hp -> Prop} {H1 : Hp}
end
theorem for_range3 {lo c : Int} {n : Nat} {g : TG} {tb : TS} {D : Ends} {σ : St} {H : Hp} (Pv : Nat -> St -> Hp -> Prop) (h0 : Pv 0 σ H)
   (hs : ∀ i σ H,i < n -> Pv i σ H -> g (.int (lo + i * c)) σ H fun σ2 H2 => tb { D with nx := Pv (i + 1),ct := Pv (i + 1),bk := D.nx } σ2 H2) (hd : ∀ σ H,Pv n σ H -> D.nx σ H) :
   ∃ W : Nat -> Nat -> St -> Hp -> Prop,(∃ m,W 0 m σ H) /\ ∀ i m σ H,W i m σ H ->
     ((Itr3 lo c n).stop i H /\ D.nx σ H) ∨ ((Itr3 lo c n).go i H /\ ∃ N : St -> Hp -> Prop,(∀ σ' H',N σ' H' -> ∃ m',m' < m /\ W (i + 1) m' σ' H') /\ ∀ x H',(Itr3 lo c n).yld i H x H' -> g x σ H' fun σ2 H2 => tb { D with nx := N,ct := N,bk := D.nx } σ2 H2) := by
 refine ⟨fun i m σ H => m = n - i /\ i <= n /\ Pv i σ H,⟨n,rfl,Nat.zero_le _,h0⟩,fun i m σ H ⟨em,hi,p⟩ => ?_⟩
 subst em
 rcases Nat.lt_or_ge i n with lt | ge
 . refine .inr ⟨lt,Pv (i + 1),fun σ' H' p' => ⟨n - (i + 1),by omega,rfl,lt,p'⟩,fun x H' ⟨e,y⟩ => ?_⟩
   subst e y
   exact hs i σ _ lt p
 . have e : i = n := by omega
   subst e
   exact .inl ⟨Nat.le_refl _,hd σ H p⟩
section
variable {P : Program} {w : World} {K : PySem.W.Frag} {mg : Str -> Option Value} {base : Heap} {t8 t6 tR tL : Tok}
end
end K02
namespace Fw
section
variable {α : Type} [DecidableEq α]
abbrev D (α : Type) := α -> α -> Option Int
def put (d : D α) (i j : α) (x : Int) : D α := fun a b => if a = i /\ b = j then some x else d a b
def relax (m i j : α) (d : D α) : D α := match d i m,d m j with
 | some a,some b => put d i j (if a + b > (d i j).getD (a + b) then a + b else (d i j).getD (a + b))
 | _,_ => d
def row (m i : α) (js : List α) (d : D α) : D α := js.foldl (fun d j => relax m i j d) d
def turn (m : α) (is js : List α) (d : D α) : D α := is.foldl (fun d i => row m i js d) d
def fw (ms ps : List α) (d : D α) : D α := ms.foldl (fun d m => turn m ps ps d) d
def Le (d e : D α) : Prop := ∀ i j x,d i j = some x -> ∃ y,e i j = some y /\ x <= y
theorem Le.refl (d : D α) : Le d d := fun _ _ x h => ⟨x,h,Int.le_refl _⟩
theorem Le.trans {d e f : D α} (a : Le d e) (b : Le e f) : Le d f := fun i j x h => by
 obtain ⟨y,h1,l1⟩ := a i j x h
 obtain ⟨z,h2,l2⟩ := b i j y h1
 exact ⟨z,h2,Int.le_trans l1 l2⟩
theorem put_same {d : D α} {i j : α} {x : Int} : put d i j x i j = some x := by unfold put; rw [if_pos ⟨rfl,rfl⟩]
theorem put_ne {d : D α} {i j a b : α} {x : Int} (h : ¬ (a = i /\ b = j)) : put d i j x a b = d a b := by unfold put; rw [if_neg h]
theorem relax_le (m i j : α) (d : D α) : Le d (relax m i j d) := by
 unfold relax
 split
 . rename_i a b ha hb
   intro u v x h
   by_cases q : u = i /\ v = j
   . obtain ⟨rfl,rfl⟩ := q
     refine ⟨_,put_same,?_⟩
     rw [h]
     show x <= if a + b > x then a + b else x
     split <;> omega
   . exact ⟨x,by rw [put_ne q]; exact h,Int.le_refl _⟩
 . exact Le.refl d
theorem row_le (m i : α) : ∀ (js : List α) (d : D α),Le d (row m i js d)
 | [],d => Le.refl d
 | j :: js,d => (relax_le m i j d).trans (row_le m i js (relax m i j d))
theorem turn_le (m : α) (js : List α) : ∀ (is : List α) (d : D α),Le d (turn m is js d)
 | [],d => Le.refl d
 | i :: is,d => (row_le m i js d).trans (turn_le m js is (row m i js d))
theorem fw_le (ps : List α) : ∀ (ms : List α) (d : D α),Le d (fw ms ps d)
 | [],d => Le.refl d
 | m :: ms,d => (turn_le m ps ps d).trans (fw_le ps ms (turn m ps ps d))
def via (m : α) (d : D α) (i j : α) : Option Int := match d i m,d m j with
 | some a,some b => some (if a + b > (d i j).getD (a + b) then a + b else (d i j).getD (a + b))
 | _,_ => d i j
theorem relax_eq (m i j : α) (d : D α) : relax m i j d = fun a b => if a = i /\ b = j then via m d i j else d a b := by
 funext a b
 have same : d a b = if a = i /\ b = j then d i j else d a b := by
   split
   . rename_i q; rw [q.1,q.2]
   . rfl
 unfold relax via
 cases h1 : d i m with
 | none => exact same
 | some x =>
   cases h2 : d m j with
   | none => exact same
   | some y => rfl
def Low (m : α) (d : D α) : Prop := ∀ x,d m m = some x -> x <= 0
theorem via_col {m : α} {d : D α} (h : Low m d) (i : α) : via m d i m = d i m := by
 unfold via
 split
 . rename_i a b ha hb
   have := h b hb
   rw [ha]
   show some (if a + b > a then a + b else a) = some a
   rw [if_neg (by omega)]
 . rfl
theorem via_row {m : α} {d : D α} (h : Low m d) (j : α) : via m d m j = d m j := by
 unfold via
 split
 . rename_i a b ha hb
   have := h a ha
   rw [hb]
   show some (if a + b > b then a + b else b) = some b
   rw [if_neg (by omega)]
 . rfl
def Mid (m : α) (d0 : D α) (R : α -> α -> Prop) (d : D α) : Prop := (∀ i j,R i j -> d i j = via m d0 i j) /\ ∀ i j,¬ R i j -> d i j = d0 i j
theorem Mid.col {m : α} {d0 d : D α} {R : α -> α -> Prop} (h : Low m d0) (M : Mid m d0 R d) (i : α) : d i m = d0 i m := by
 by_cases q : R i m
 . rw [M.1 i m q]; exact via_col h i
 . exact M.2 i m q
theorem Mid.row {m : α} {d0 d : D α} {R : α -> α -> Prop} (h : Low m d0) (M : Mid m d0 R d) (j : α) : d m j = d0 m j := by
 by_cases q : R m j
 . rw [M.1 m j q]; exact via_row h j
 . exact M.2 m j q
theorem via_via {m : α} {d0 d : D α} {R : α -> α -> Prop} (h : Low m d0) (M : Mid m d0 R d) (i j : α) : via m d i j = via m d0 i j := by
 have e1 := M.col h i
 have e2 := M.row h j
 by_cases q : R i j
 . have e3 := M.1 i j q
   unfold via at e3 ⊢
   rw [e1,e2]
   split
   . rename_i a b ha hb
     rw [ha,hb] at e3
     have e4 : d i j = some (if a + b > (d0 i j).getD (a + b) then a + b else (d0 i j).getD (a + b)) := e3
     rw [e4]
     show some (if a + b > (if a + b > (d0 i j).getD (a + b) then a + b else (d0 i j).getD (a + b)) then a + b else (if a + b > (d0 i j).getD (a + b) then a + b else (d0 i j).getD (a + b))) = some _
     congr 1
     split <;> first | omega | rfl | (split <;> first | omega | rfl)
   . rename_i hn
     rw [e3]
     split
     . rename_i a b ha hb
       exact (hn a b ha hb).elim
     . rfl
 . have e3 := M.2 i j q
   unfold via
   rw [e1,e2,e3]
theorem Mid.relax {m : α} {d0 d : D α} {R : α -> α -> Prop} (h : Low m d0) (M : Mid m d0 R d) (i j : α) : Mid m d0 (fun a b => R a b ∨ (a = i /\ b = j)) (relax m i j d) := by
 rw [relax_eq,via_via h M]
 refine ⟨fun a b r => ?_,fun a b r => ?_⟩
 . by_cases q : a = i /\ b = j
   . show (if a = i /\ b = j then _ else _) = _
     rw [if_pos q,q.1,q.2]
   . show (if a = i /\ b = j then _ else _) = _
     rw [if_neg q]
     exact M.1 a b (r.resolve_right q)
 . show (if a = i /\ b = j then _ else _) = _
   rw [if_neg (fun q => r (.inr q))]
   exact M.2 a b (fun q => r (.inl q))
theorem Mid.row' {m : α} {d0 : D α} (h : Low m d0) (i : α) : ∀ (js : List α) {d : D α} {R : α -> α -> Prop},Mid m d0 R d -> Mid m d0 (fun a b => R a b ∨ (a = i /\ b ∈ js)) (Fw.row m i js d)
 | [],d,R,M => ⟨fun a b r => M.1 a b (r.elim id fun z => by simp at z),fun a b r => M.2 a b fun z => r (.inl z)⟩
 | j :: js,d,R,M => by
   have z := Mid.row' h i js (M.relax h i j)
   refine ⟨fun a b r => z.1 a b ?_,fun a b r => z.2 a b ?_⟩
   . rcases r with r | ⟨rfl,r⟩
     . exact .inl (.inl r)
     . rcases List.mem_cons.mp r with r | r
       . exact .inl (.inr ⟨rfl,r⟩)
       . exact .inr ⟨rfl,r⟩
   . rintro ((q | q) | q)
     . exact r (.inl q)
     . exact r (.inr ⟨q.1,by rw [q.2]; exact List.mem_cons_self⟩)
     . exact r (.inr ⟨q.1,List.mem_cons_of_mem _ q.2⟩)
theorem Mid.turn' {m : α} {d0 : D α} (h : Low m d0) (js : List α) : ∀ (is : List α) {d : D α} {R : α -> α -> Prop},Mid m d0 R d -> Mid m d0 (fun a b => R a b ∨ (a ∈ is /\ b ∈ js)) (Fw.turn m is js d)
 | [],d,R,M => ⟨fun a b r => M.1 a b (r.elim id fun z => by simp at z),fun a b r => M.2 a b fun z => r (.inl z)⟩
 | i :: is,d,R,M => by
   have z := Mid.turn' h js is (Mid.row' h i js M)
   refine ⟨fun a b r => z.1 a b ?_,fun a b r => z.2 a b ?_⟩
   . rcases r with r | ⟨r,r2⟩
     . exact .inl (.inl r)
     . rcases List.mem_cons.mp r with r | r
       . exact .inl (.inr ⟨r,r2⟩)
       . exact .inr ⟨r,r2⟩
   . rintro ((q | q) | q)
     . exact r (.inl q)
     . exact r (.inr ⟨by rw [q.1]; exact List.mem_cons_self,q.2⟩)
     . exact r (.inr ⟨List.mem_cons_of_mem _ q.1,q.2⟩)
theorem turn_is {m : α} {d : D α} (h : Low m d) {ps : List α} {i j : α} (hi : i ∈ ps) (hj : j ∈ ps) : turn m ps ps d i j = via m d i j := by
 have z := Mid.turn' h ps ps (d := d) (R := fun _ _ => False) ⟨fun _ _ r => r.elim,fun _ _ _ => rfl⟩
 exact z.1 i j (.inr ⟨hi,hj⟩)
def Closed (ps S : List α) (d : D α) : Prop := ∀ k ∈ S,∀ i ∈ ps,∀ j ∈ ps,∀ a b,d i k = some a -> d k j = some b -> ∃ c,d i j = some c /\ a + b <= c
def Bad (ps : List α) (d : D α) : Prop := ∃ p ∈ ps,∃ x,d p p = some x /\ 0 < x
theorem Bad.le {ps : List α} {d e : D α} (b : Bad ps d) (l : Le d e) : Bad ps e := by
 obtain ⟨p,hp,x,h,x0⟩ := b
 obtain ⟨y,h2,l2⟩ := l p p x h
 exact ⟨p,hp,y,h2,by omega⟩
theorem via_ge {m : α} {d : D α} {i j : α} {x : Int} (h : d i j = some x) : ∃ y,via m d i j = some y /\ x <= y := by
 unfold via
 split
 . rename_i a b ha hb
   refine ⟨_,rfl,?_⟩
   rw [h]
   show x <= if a + b > x then a + b else x
   split <;> omega
 . exact ⟨x,h,Int.le_refl _⟩
theorem via_sum {m : α} {d : D α} {i j : α} {a b : Int} (ha : d i m = some a) (hb : d m j = some b) : ∃ y,via m d i j = some y /\ a + b <= y := by
 unfold via
 rw [ha,hb]
 refine ⟨_,rfl,?_⟩
 show a + b <= if a + b > (d i j).getD (a + b) then a + b else (d i j).getD (a + b)
 split <;> omega
theorem via_cases {m : α} {d : D α} {i j : α} {x : Int} (h : via m d i j = some x) : d i j = some x ∨ ∃ a b,d i m = some a /\ d m j = some b /\ x = a + b := by
 unfold via at h
 split at h
 . rename_i a b ha hb
   have e := Option.some.inj h
   by_cases q : a + b > (d i j).getD (a + b)
   . rw [if_pos q] at e
     exact .inr ⟨a,b,ha,hb,e.symm⟩
   . rw [if_neg q] at e
     cases z : d i j with
     | none => rw [z] at e; exact .inr ⟨a,b,ha,hb,e.symm⟩
     | some y => rw [z] at e; exact .inl (congrArg some e)
 . exact .inl h
theorem Closed.turn {ps S : List α} {m : α} {d : D α} (hm : m ∈ ps) (hS : ∀ k ∈ S,k ∈ ps) (h : Low m d) (C : Closed ps S d) : Closed ps (m :: S) (Fw.turn m ps ps d) := by
 intro k hk i hi j hj a b ha hb
 have hkp : k ∈ ps := by
   rcases List.mem_cons.mp hk with q | q
   . rw [q]; exact hm
   . exact hS k q
 rw [turn_is h hi hkp] at ha
 rw [turn_is h hkp hj] at hb
 rw [turn_is h hi hj]
 rcases List.mem_cons.mp hk with q | q
 . subst q
   rw [via_col h] at ha
   rw [via_row h] at hb
   exact via_sum ha hb
 . have cl := C k q
   rcases via_cases ha with ha | ⟨a1,a2,h1,h2,rfl⟩
   . rcases via_cases hb with hb | ⟨b1,b2,h3,h4,rfl⟩
     . obtain ⟨c,hc,l⟩ := cl i hi j hj a b ha hb
       obtain ⟨y,hy,l2⟩ := via_ge (m := m) hc
       exact ⟨y,hy,by omega⟩
     . obtain ⟨c,hc,l⟩ := cl i hi m hm a b1 ha h3
       obtain ⟨y,hy,l2⟩ := via_sum hc h4
       exact ⟨y,hy,by omega⟩
   . rcases via_cases hb with hb | ⟨b1,b2,h3,h4,rfl⟩
     . obtain ⟨c,hc,l⟩ := cl m hm j hj a2 b h2 hb
       obtain ⟨y,hy,l2⟩ := via_sum h1 hc
       exact ⟨y,hy,by omega⟩
     . obtain ⟨c,hc,l⟩ := cl m hm m hm a2 b1 h2 h3
       have := h c hc
       obtain ⟨y,hy,l2⟩ := via_sum h1 h4
       exact ⟨y,hy,by omega⟩
theorem fw_closed {ps : List α} : ∀ (ms S : List α) (d : D α),(∀ m ∈ ms,m ∈ ps) -> (∀ k ∈ S,k ∈ ps) -> (Bad ps d ∨ Closed ps S d) -> Bad ps (fw ms ps d) ∨ Closed ps (ms.reverse ++ S) (fw ms ps d)
 | [],S,d,_,_,h => h
 | m :: ms,S,d,hm,hS,h => by
   have m0 := hm m List.mem_cons_self
   have hS' : ∀ k ∈ m :: S,k ∈ ps := fun k hk => (List.mem_cons.mp hk).elim (fun e => e ▸ m0) (hS k)
   have z := fw_closed ms (m :: S) (Fw.turn m ps ps d) (fun x hx => hm x (List.mem_cons_of_mem _ hx)) hS' (by
     rcases h with h | h
     . exact .inl (h.le (turn_le m ps ps d))
     . by_cases q : Low m d
       . exact .inr (h.turn m0 hS q)
       . refine .inl (Bad.le ?_ (turn_le m ps ps d))
         refine ⟨m,m0,?_⟩
         cases e : d m m with
         | none => exact absurd (fun x hx => by rw [e] at hx; cases hx) q
         | some x =>
           refine ⟨x,rfl,?_⟩
           by_cases w : x <= 0
           . exact absurd (fun y hy => by rw [e] at hy; cases hy; exact w) q
           . omega)
   have e : (m :: ms).reverse ++ S = ms.reverse ++ m :: S := by simp
   rw [e]
   exact z
theorem fw_all {ps : List α} (d : D α) : Bad ps (fw ps ps d) ∨ Closed ps ps (fw ps ps d) := by
 rcases fw_closed ps [] d (fun _ h => h) (fun k hk => by simp at hk) (.inr fun k hk => by simp at hk) with h | h
 . exact .inl h
 . exact .inr fun k hk => h k (by simp [hk])
end
end Fw
namespace K04
open PySem L2 K02
def top (i : Nat) : Stmt := PySem.Challenge.pw_skewbooks_k04_placings_looked_at.main.body.getD i (.Pass ⟨0,0,0,0⟩)
abbrev sWhole : Stmt := top 2
abbrev sName : Stmt := top 3
abbrev sParts : Stmt := top 5
abbrev sNamed : Stmt := top 6
abbrev sRowsIn : Stmt := top 7
abbrev sNeigh : Stmt := top 8
abbrev sRowNames : Stmt := top 9
abbrev sRowsOf : Stmt := top 10
abbrev sEach : Stmt := top 11
abbrev sKDrift : Stmt := top 12
abbrev sKHouse : Stmt := top 13
abbrev sKLetter : Stmt := top 14
abbrev sPlacing : Stmt := top 15
abbrev sMixed : Stmt := top 17
abbrev sPack : Stmt := top 18
abbrev sTake : Stmt := top 19
abbrev sNames : Stmt := top 20
abbrev sMkHouse : Stmt := top 21
abbrev sMkLetters : Stmt := top 22
abbrev sMkLedger : Stmt := top 23
abbrev sBent : Stmt := top 24
abbrev sSteps : Stmt := top 25
abbrev sRows : Stmt := top 26
abbrev sSums : Stmt := top 27
abbrev sKeeps : Stmt := top 28
abbrev sMoments : Stmt := top 29
abbrev sTold : Stmt := top 30
abbrev sIs : Stmt := top 31
abbrev sSome : Stmt := top 32
abbrev sLaw : Stmt := top 33
structure Txt (mg : Str -> Option Value) (t8 : Tok) : Prop where
 isi : mg "isinstance" = none
 int : mg "int" = none
 bool : mg "bool" = none
 str : mg "str" = none
 tuple : mg "tuple" = none
 len : mg "len" = none
 all : mg "all" = none
 zip : mg "zip" = none
 set : mg "set" = none
 sorted : mg "sorted" = none
 divmod : mg "divmod" = none
 range : mg "range" = none
 max : mg "max" = none
 min : mg "min" = none
 abs : mg "abs" = none
 list : mg "list" = none
 dict : mg "dict" = none
 any : mg "any" = none
 most : mg "LONGEST_NAME" = some (.int 8 t8)
section
variable {P : Program} {w : World} {K : PySem.W.Frag} {mg : Str -> Option Value} {base : Heap} {t8 : Tok}
theorem scWhole : FnScope ["thing"] ["thing"] (defScope sWhole) := ⟨rfl,rfl,rfl,by decide +kernel,rfl,by decide +kernel,by decide +kernel⟩
theorem ok_whole {f : Addr} {fd : FuncData} (F : Fun K "is_whole" "is_whole" sWhole f fd) (T : Txt mg t8) : FnOk P w K mg base CX0 1 f fd ["thing"] (spWhole K) := by
 refine F.ok scWhole (fun vs H Q E h => ?_) (fun cdv A outer s H vs Q E hr h => ?_)
 . obtain ⟨x,rfl,_⟩ := h
   rfl
 . obtain ⟨x,rfl,⟨⟨T',ty⟩,_⟩,q⟩ := h
   refine ⟨_,pss_one (ps_ret (peAnd (pe_callB call_isi rfl T.isi PyProof.Rows.boot_isinstance (pa_cons (pV 0) (pa_cons (pe_bltn (v := .ty "int") rfl T.int PyProof.Rows.boot_int rfl) pa_nil)))
     (pe_one (peNot (pe_callB call_isi rfl T.isi PyProof.Rows.boot_isinstance (pa_cons (pV 0) (pa_cons (pe_bltn (v := .ty "bool") rfl T.bool PyProof.Rows.boot_bool rfl) pa_nil))))))),?_⟩
   obtain ⟨k1,k2,_,_⟩ := kit8 ty
   have e := isW_ty ty
   refine ⟨x,_,_,_,rfl,ty,k1,?_⟩
   cases q1 : sub8 T' "int" with
   | false =>
     rw [q1] at e
     rw [<- e] at q
     exact q
   | true =>
     rw [q1] at e
     refine ⟨x,_,_,_,rfl,ty,k2,?_⟩
     show Q (.bl (!sub8 T' "bool")) H
     rw [<- e] at q
     simpa using q
theorem scName : FnScope ["thing"] ["thing"] (defScope sName) := ⟨rfl,rfl,rfl,by decide +kernel,rfl,by decide +kernel,by decide +kernel⟩
theorem ok_name {f : Addr} {fd : FuncData} (F : Fun K "is_name" "is_name" sName f fd) (T : Txt mg t8) : FnOk P w K mg base CX0 1 f fd ["thing"] (spName K) := by
 refine F.ok scName (fun vs H Q E h => ?_) (fun cdv A outer s H vs Q E hr h => ?_)
 . obtain ⟨x,rfl,_⟩ := h
   rfl
 . obtain ⟨x,rfl,⟨⟨T',ty⟩,hz⟩,q⟩ := h
   refine ⟨_,pss_cons (ps_if (ptOr (pt_not (ptV (pe_callB call_isi rfl T.isi PyProof.Rows.boot_isinstance (pa_cons (pV 0) (pa_cons (pe_bltn (v := .ty "str") rfl T.str PyProof.Rows.boot_str rfl) pa_nil)))))
       (pw_or1 (pt_not (ptCh oLe oLe pe_int (pe_callB call_len_str rfl T.len PySem.boot_len (pa_cons (pV 0) pa_nil)) (pe_glob (v := .int 8) rfl T.most ⟨_,rfl⟩))))) (pss_one (ps_ret pe_bl)) pss_nil)
     (pss_one (ps_ret (pe_callB (call_all rfl) rfl T.all PyProof.Rows.boot_all (pa_cons (pe_comp (scX := defScope sName) (own := ["sign"]) (cap := []) (ix := []) rfl rfl ⟨rfl,by decide +kernel,by decide +kernel,by decide +kernel,rfl,by decide +kernel⟩
       (pi_str (pV 0)) (fun b => pg_name (i := 0) (show (["sign"]:List Str).Nodup by decide +kernel) rfl (Or.inl rfl)) (fun b => pif_nil) (fun b => peCh oLeS oLeS pe_str (pV 0) pe_str)) pa_nil)))),?_⟩
   obtain ⟨_,_,k3,_⟩ := kit8 ty
   refine ⟨x,_,_,_,rfl,ty,k3,?_⟩
   cases q1 : sub8 T' "str" with
   | false =>
     have e : isN x = false := by cases ty <;> first | rfl | exact absurd q1 (by decide)
     rw [e] at q
     exact q H (Same.refl H)
   | true =>
     obtain ⟨z,rfl⟩ : ∃ z,x = .str z := by cases ty <;> first | exact ⟨_,rfl⟩ | exact absurd q1 (by decide)
     have hz' := hz z rfl
     refine ⟨z,rfl,hz',?_⟩
     refine ite2 (fun h1 => ?_) (fun h1 => ?_)
     . have h1' : 1 <= z.length := by have := of_decide_eq_true h1; omega
       refine ite2 (fun h2 => ?_) (fun h2 => ?_)
       . have e : isN (.str z) = false := by
           have h2' : ¬ z.length <= 8 := by
             intro h
             have : decide ((z.length : Int) <= 8) = true := decide_eq_true (by omega)
             rw [this] at h2; cases h2
           simp [isN,h2']
         rw [e] at q
         exact q H (Same.refl H)
       . have h2' : z.length <= 8 := by
           have : ¬ ¬ (z.length : Int) <= 8 := fun h => h2 (by rw [decide_eq_false h]; rfl)
           omega
         refine ⟨z,rfl,fun D hD => comp_str (fun i H' => Grow H H' D ((z.cps.toList.take i).map fun c => V.bl (low c))) (Grow.start hD) (fun H' G => ?_) (fun i c H' hc hi G b => ?_)⟩
         . refine ⟨D,z.cps.toList.map low,rfl,SqL.of (by rw [G.at',take_all (by simp),List.map_map]; rfl),?_⟩
           have e : isN (.str z) = (z.cps.toList.map low).all id := by
             simp [isN,h1',h2',List.all_map]
           rw [e] at q
           exact q H' G.same
         . have hl := low_of c
           have sz : z.cps.size <= sizeLine := hz'
           have fin : ∀ (k : Bool),k = low c -> Nx z.cps.size i (fun i H' => Grow H H' D ((z.cps.toList.take i).map fun c => V.bl (low c))) (upd H' D (.lst ((z.cps.toList.take i).map (fun c => V.bl (low c)) ++ [.bl k]))) := fun k hk => by
             subst hk
             refine nx hi ?_
             show Grow H _ D ((z.cps.toList.take (i + 1)).map fun c => V.bl (low c))
             rw [take_map (cps_get hc)]
             exact G.put hD _
           refine ite2 (fun h3 => ?_) (fun h3 => ?_)
           . refine ⟨_,G.at',len_take hi sz,fin _ ?_⟩
             have h3' : decide (97 <= c) = true := hl.1.symm.trans h3
             show (!decide (("z" : Str).cps.toList < (⟨#[c]⟩ : Str).cps.toList)) = low c
             rw [hl.2]
             simp [low,of_decide_eq_true h3']
           . refine ⟨_,G.at',len_take hi sz,fin _ ?_⟩
             have h3' : ¬ 97 <= c := fun h => h3 (hl.1.trans (decide_eq_true h))
             simp [low,h3']
     . have e : isN (.str z) = false := by
         have h1' : ¬ 1 <= z.length := by
           intro h
           exact h1 (decide_eq_true (by omega))
         simp [isN,h1']
       rw [e] at q
       exact q H (Same.refl H)
theorem sc_mixed : FnScope ["_law_cell"] ["_law_cell"] (defScope sMixed) := ⟨rfl,rfl,rfl,by decide +kernel,rfl,by decide +kernel,by decide +kernel⟩
theorem ok_mixed {f : Addr} {fd : FuncData} (F : Fun K "_law_mixed" "_law_mixed" sMixed f fd) : FnOk P w K mg base CX0 1 f fd ["_law_cell"] spMixed := by
 refine F.ok sc_mixed (fun vs H Q E h => ?_) (fun cdv A outer s H vs Q E hr h => ?_)
 . obtain ⟨c,rfl,_⟩ := h
   rfl
 . obtain ⟨c,rfl,hb,q⟩ := h
   refine ⟨_,(pss_one (ps_ret (pe_op oMod (pe_op oMulB (pV 0) pe_int) (pe_op oPow pe_int pe_int)))),?_⟩
   refine ⟨IntMulOk.of_le (m := 2000000) (n := 400) hb (by decide +kernel) (by decide),?_⟩
   refine ⟨⟨by decide,by decide,by decide⟩,by show (0 : Int) < 10 ^ Int.toNat 60; decide +kernel,?_⟩
   exact q _ (Int.emod_nonneg _ (by decide +kernel))
theorem sc_pack : FnScope ["_law_script","_law_k"] ["_law_script","_law_k"] (defScope sPack) := ⟨rfl,rfl,rfl,by decide +kernel,rfl,by decide +kernel,by decide +kernel⟩
theorem ok_pack {f F_z13 : Addr} {fd D_z13 : FuncData} (F : Fun K "_law_pack" "_law_pack" sPack f fd) (T : Txt mg t8)
   (G_z13 : FnOk P w K mg base CX0 1 F_z13 D_z13 ["_law_cell"] spMixed) (M_z13 : mg "_law_mixed" = some (.ref F_z13)) (N_z13 : PySem.W.keepIn K (.ref F_z13) = true) (B_z13 : Binds K D_z13 ["_law_cell"] []) : FnOk P w K mg base CX0 2 f fd ["_law_script","_law_k"] (spPack K) := by
 refine F.ok sc_pack (fun vs H Q E h => ?_) (fun cdv A outer s H vs Q E hr h => ?_)
 . obtain ⟨a,ns,k,rfl,_⟩ := h
   rfl
 . obtain ⟨a,ns,k,rfl,ha,hb,hl,k0,k1,q⟩ := h
   have small : ∀ z : Int,0 <= z -> z <= 10000000 -> Builtin.Int.intBits z <= 1048576 := fun z z0 z1 => Nat.le_trans (intBits_le_64 (by omega) (by omega)) (by decide)
   have fin : ∀ n : Int,0 <= n -> tLst (tCons (tC (.int n)) tNil) ([] : St) H Q := fun n n0 => ⟨by show 1 <= sizeLine; rw [sizeLine_eq]; decide,fun p hp => q p _ hp ⟨n,upd_same,n0⟩ ((Same.refl H).upd hp)⟩
   refine ⟨_,(pss_cons (ps_if (ptC oLt (pV 1) (pe_callB call_len_seq rfl T.len PySem.boot_len (pa_cons (pV 0) pa_nil)) (nomark _)) (pss_one (ps_ret (pe_lst (pa_cons (pe_call G_z13 hr rfl M_z13 N_z13 B_z13 .nil pass0 (pa_cons (pe_op oAdd (pe_ix iIx (pV 0) (pV 1) (fun _ _ => rfl)) (pe_op oMul pe_int (pV 1))) pa_nil)) pa_nil)))) pss_nil) (pss_one (ps_ret (pe_lst (pa_cons (pe_call G_z13 hr rfl M_z13 N_z13 B_z13 .nil pass0 (pa_cons (pe_op oAdd (pe_op oMul pe_int (pV 1)) pe_int) pa_nil)) pa_nil))))),?_⟩
   refine ⟨a,_,rfl,.inl ha,?_⟩
   refine ite2 (fun z => ?_) (fun z => ?_)
   . have lt : k < ((ns.map V.int).length : Int) := of_decide_eq_true z
     obtain ⟨j,rfl⟩ := Int.eq_ofNat_of_zero_le k0
     rw [List.length_map] at lt
     have hj : ns[j]? = some ns[j] := List.getElem?_eq_getElem (by omega)
     refine ixAtS ha (v := .int ns[j]) (atI_nat (by rw [List.getElem?_map,hj]; rfl)) ?_
     refine ⟨.inl ⟨by decide,by decide⟩,?_⟩
     have b1 := intBits_add_le (hb ns[j] (List.mem_of_getElem? hj)) (small (23 * (j : Int)) (by omega) (by omega))
     refine ⟨_,rfl,Nat.le_trans b1 (by decide),fun n n0 => ?_⟩
     exact fin n n0
   . refine ⟨.inl ⟨by decide,by decide⟩,?_⟩
     refine ⟨_,rfl,Nat.le_trans (small (5099 * k + 7) (by omega) (by omega)) (by decide),fun n n0 => ?_⟩
     exact fin n n0
theorem sc_take : FnScope ["_law_pack_here","_law_size","_law_digit"] ["_law_pack_here","_law_size"] (defScope sTake) := ⟨rfl,rfl,rfl,by decide +kernel,rfl,by decide +kernel,by decide +kernel⟩
theorem ok_take {f : Addr} {fd : FuncData} (F : Fun K "_law_take" "_law_take" sTake f fd) (T : Txt mg t8) : FnOk P w K mg base CX0 1 f fd ["_law_pack_here","_law_size"] spTake := by
 refine F.ok sc_take (fun vs H Q E h => ?_) (fun cdv A outer s H vs Q E hr h => ?_)
 . obtain ⟨p,m,rfl,_⟩ := h
   rfl
 . obtain ⟨p,m,rfl,⟨n,hp,n0⟩,m0,m1,q⟩ := h
   refine ⟨_,(pss_cons (ps_asg (pe_callB call_divmod rfl T.divmod PyProof.Rows.boot_divmod (pa_cons (pe_ix iIx (pV 0) pe_int (fun _ _ => rfl)) (pa_cons (pV 1) pa_nil))) (pg_tup rfl (pgs_cons (pg_sub (pV 0) pe_int iSet) (pgs_cons (pg_name (i := 2) sc_take.nd rfl (Or.inl rfl)) pgs_nil)))) (pss_one (ps_ret (pV 2)))),?_⟩
   refine ixAt hp (i := 0) (by rfl) ?_
   refine ⟨n,m,rfl,⟨m0,m1⟩,fun t ht => ?_⟩
   have ne : p ≠ t := ne_of_none hp ht
   refine ⟨t,_,rfl,SqT.of upd_same,rfl,_,_,rfl,?_⟩
   refine setAt (j := 0) (show upd H t (.tup [.int (n / m),.int (n % m)]) p = some (.lst [.int n]) by rw [upd_ne ne]; exact hp) (by rfl) ?_
   refine ⟨_,_,rfl,rfl,?_⟩
   refine q _ _ (Int.emod_nonneg n (by omega)) (Int.emod_lt_of_pos n m0) ⟨n / m,upd_same,Int.ediv_nonneg n0 (by omega)⟩ ?_
   exact ((SameB.of (Same.refl H)).new ht).upd
theorem sc_names : FnScope ["_law_pack_here","_law_amount","_law_letters_here","_law_turn","_law_pick","_law_size"] ["_law_pack_here","_law_amount"] (defScope sNames) := ⟨rfl,rfl,rfl,by decide +kernel,rfl,by decide +kernel,by decide +kernel⟩
theorem ok_names {f F_t : Addr} {fd D_t : FuncData} (F : Fun K "_law_names" "_law_names" sNames f fd) (T : Txt mg t8)
   (G_t : FnOk P w K mg base CX0 1 F_t D_t ["_law_pack_here","_law_size"] spTake) (M_t : mg "_law_take" = some (.ref F_t)) (N_t : PySem.W.keepIn K (.ref F_t) = true) (B_t : Binds K D_t ["_law_pack_here","_law_size"] []) : FnOk P w K mg base CX0 2 f fd ["_law_pack_here","_law_amount"] spNames := by
 refine F.ok sc_names (fun vs H Q E h => ?_) (fun cdv A outer s H vs Q E hr h => ?_)
 . obtain ⟨p,rfl,_⟩ := h
   rfl
 . obtain ⟨p,rfl,hp,q⟩ := h
   have sl0 : sizeLine = 16777216 := sizeLine_eq
   refine ⟨_,(pss_cons (ps_set (i := 2) sc_names.nd rfl (Or.inr rfl) pe_str) (pss_cons (ps_set (i := 3) sc_names.nd rfl (Or.inl rfl) (pe_call G_t hr rfl M_t N_t B_t .nil pass0 (pa_cons (pV 0) (pa_cons pe_int pa_nil)))) (pss_cons (ps_set (i := 2) sc_names.nd rfl (Or.inr rfl) (pe_op oCat (pe_slice iSlS (pV 2) (poI (pV 3)) po_none) (pe_slice iSlS (pV 2) po_none (poI (pV 3))))) (pss_cons (ps_set (i := 4) sc_names.nd rfl (Or.inl rfl) (pe_call G_t hr rfl M_t N_t B_t .nil pass0 (pa_cons (pV 0) (pa_cons pe_int pa_nil)))) (pss_cons (ps_set (i := 5) sc_names.nd rfl (Or.inr rfl) (pe_call G_t hr rfl M_t N_t B_t .nil pass0 (pa_cons (pV 0) (pa_cons pe_int pa_nil)))) (pss_cons (ps_if (ptC oEq (pV 4) pe_int (nomark _)) (pss_one (ps_ret (pe_comp (scX := defScope sNames) (own := ["_law_k"]) (cap := ["_law_letters_here"]) (ix := [2]) rfl rfl ⟨rfl,by decide +kernel,by decide +kernel,by decide +kernel,rfl,by decide +kernel⟩ (pi_range1 rfl T.range (pa_cons (pV 1) pa_nil)) (fun b => (pg_name (i := 0) (show (["_law_k","_law_letters_here"]:List Str).Nodup by decide +kernel) rfl (Or.inl rfl))) (fun b => pif_nil) (fun b => (pe_op op_mulS (pe_ix iIxS (pV 1) (pe_op oDiv (pV 0) pe_int) (fun _ _ => rfl)) (pe_op oAdd pe_int (pe_op oMod (pV 0) pe_int))))))) pss_nil) (pss_cons (ps_if (ptC oEq (pV 4) pe_int (nomark _)) (pss_one (ps_ret (pe_comp (scX := defScope sNames) (own := ["_law_k"]) (cap := ["_law_letters_here","_law_size"]) (ix := [2,5]) rfl rfl ⟨rfl,by decide +kernel,by decide +kernel,by decide +kernel,rfl,by decide +kernel⟩ (pi_range1 rfl T.range (pa_cons (pV 1) pa_nil)) (fun b => (pg_name (i := 0) (show (["_law_k","_law_letters_here","_law_size"]:List Str).Nodup by decide +kernel) rfl (Or.inl rfl))) (fun b => pif_nil) (fun b => (pe_op oCat (pe_ix iIxS (pV 1) (pe_op oMod (pV 0) pe_int) (fun _ _ => rfl)) (pe_slice iSlS (pV 1) (poI pe_int) (poI (pe_op oAdd pe_int (pV 2))))))))) pss_nil) (pss_one (ps_ret (pe_comp (scX := defScope sNames) (own := ["_law_k"]) (cap := ["_law_letters_here","_law_size"]) (ix := [2,5]) rfl rfl ⟨rfl,by decide +kernel,by decide +kernel,by decide +kernel,rfl,by decide +kernel⟩ (pi_range1 rfl T.range (pa_cons (pV 1) pa_nil)) (fun b => (pg_name (i := 0) (show (["_law_k","_law_letters_here","_law_size"]:List Str).Nodup by decide +kernel) rfl (Or.inl rfl))) (fun b => pif_nil) (fun b => (pe_op oCat (pe_slice iSlS (pV 1) (poI pe_int) (poI (pe_op oAdd pe_int (pV 2)))) (pe_ix iIxS (pV 1) (pe_op oMod (pV 0) pe_int) (fun _ _ => rfl)))))))))))))),?_⟩
   refine ⟨p,26,rfl,hp,by decide,by decide,fun t H1 t0 t1 hp1 s1 => ?_⟩
   obtain ⟨t,rfl⟩ := Int.eq_ofNat_of_zero_le t0
   have ht : t < 26 := by omega
   have la : abc.length <= sizeLine := by rw [abc_len]; omega
   refine slStr (z := abc) la ?_
   refine slStr (z := abc) la ?_
   have rt := rot_text (t := t) (by omega)
   refine ⟨by
     have z1 := PySem.Txt.slice_le abc (some (t : Int)) none
     have z2 := PySem.Txt.slice_le abc none (some (t : Int))
     rw [abc_len] at z1 z2
     omega,?_⟩
   generalize PySem.Txt.slice abc (some (t : Int)) none ++ PySem.Txt.slice abc none (some (t : Int)) = R at rt
   have lR : R.length = 26 := by rw [<- len_list,rt]; exact rot_len (by omega)
   refine ⟨p,3,rfl,hp1,by decide,by decide,fun pk H2 p0 p1 hp2 s2 => ?_⟩
   obtain ⟨pick,rfl⟩ := Int.eq_ofNat_of_zero_le p0
   refine ⟨p,8,rfl,hp2,by decide,by decide,fun sz H3 z0 z1 hp3 s3 => ?_⟩
   obtain ⟨size,rfl⟩ := Int.eq_ofNat_of_zero_le z0
   have s13 : SameB p H H3 := (s1.trans s2).trans s3
   obtain ⟨ok1,ok2⟩ := namesL_ok (t := t) (sz := size) (pick := pick) ht (by omega) (by omega)
   have ok3 := namesL_q (t := t) (sz := size) (pick := pick) ht (by omega) (by omega)
   have fin : ∀ (D : Addr) (H' : Hp),H3 D = none -> Grow H3 H' D ((namesL t size pick).map V.str) -> Q (.ref D) H' := fun D H' hD G => by
     refine q D (namesL t size pick) H' ?_ G.at' (by unfold namesL; rw [List.length_map,List.length_range]) ok1 ok2 ok3 (by obtain ⟨n,e,n0⟩ := hp3; exact ⟨n,G.same _ _ e,n0⟩) (s13.trans (SameB.of G.same))
     cases e : H D with
     | none => rfl
     | some o =>
       have nD : D ≠ p := fun z => by
         obtain ⟨n,e',_⟩ := hp3
         rw [<- z,hD] at e'; cases e'
       have := s13 D o nD e
       rw [hD] at this; cases this
   have step : ∀ (i : Nat),i < 12 -> (namesL t size pick).take (i + 1) = (namesL t size pick).take i ++ [nameS t size pick i] := fun i hi => by
     have e : (namesL t size pick)[i]? = some (nameS t size pick i) := by unfold namesL; rw [List.getElem?_map,List.getElem?_range hi]; rfl
     rw [List.take_add_one,e]; rfl
   have lenN : (namesL t size pick).length = 12 := by unfold namesL; rw [List.length_map,List.length_range]
   have put : ∀ (i : Nat) (D : Addr) (H' : Hp) (z : Str),i < 12 -> H3 D = none -> Grow H3 H' D (((namesL t size pick).take i).map V.str) -> z.cps.toList = nameL t size pick i -> ∃ zs,H' D = some (.lst zs) /\ zs.length < sizeLine /\ Nx 12 i (fun i H' => Grow H3 H' D (((namesL t size pick).take i).map V.str)) (upd H' D (.lst (zs ++ [.str z]))) := fun i D H' z hi hD G ez => by
     refine ⟨_,G.at',by rw [List.length_map,List.length_take]; omega,nx hi ?_⟩
     show Grow H3 _ D (((namesL t size pick).take (i + 1)).map V.str)
     have ez' : z = nameS t size pick i := by
       cases z with
       | mk c => unfold nameS; congr 1; rw [<- ez]
     rw [step i hi,List.map_append,ez']
     exact G.put hD _
   have all : ((namesL t size pick).take 12).map V.str = (namesL t size pick).map V.str := by rw [List.take_of_length_le (by omega)]
   have cutR : (PySem.Txt.slice R (some 4) (some (4 + (size : Int)))).cps.toList = ((rot t).drop 4).take size := by
     have e : PySem.Txt.slice R (some ((4 : Nat) : Int)) (some ((4 + size : Nat) : Int)) = _ := slice_mid R 4 (4 + size)
     have e2 : PySem.Txt.slice R (some 4) (some (4 + (size : Int))) = ⟨((R.cps.toList.take (4 + size)).drop 4).toArray⟩ := e
     rw [e2,rt,List.drop_take]
     simp
   have cutL : (PySem.Txt.slice R (some 4) (some (4 + (size : Int)))).length <= 26 := by rw [<- lR]; exact PySem.Txt.slice_le R _ _
   refine ite2 (fun c1 => ?_) (fun c1 => ?_)
   . have pk0 : pick = 0 := by have := of_decide_eq_true c1; omega
     refine ⟨12,rfl,by decide,by decide,fun D hD => comp_range (lo := 0) (n := 12) (fun i H' => Grow H3 H' D (((namesL t size pick).take i).map V.str)) (Grow.start hD) (fun H' G => fin D H' hD (by rw [<- all]; exact G)) (fun i H' hi G b => ?_)⟩
     refine ⟨⟨by decide,by decide⟩,?_⟩
     refine ixStr (z := R) (by omega) (by rw [rt]; exact atI_getD (by omega) (by rw [rot_len (by omega)]; omega)) ?_
     refine ⟨by show (0 : Int) < 8; decide,?_⟩
     refine ⟨_,_,rfl,rfl,by omega,by omega,?_⟩
     refine put i D H' _ hi hD G ?_
     subst pk0
     unfold nameL
     rw [if_pos rfl]
     show List.replicate _ _ = _
     congr 1
     . omega
     . congr 1; omega
   . refine ite2 (fun c2 => ?_) (fun c2 => ?_)
     . have pk1 : pick = 1 := by have := of_decide_eq_true c2; omega
       refine ⟨12,rfl,by decide,by decide,fun D hD => comp_range (lo := 0) (n := 12) (fun i H' => Grow H3 H' D (((namesL t size pick).take i).map V.str)) (Grow.start hD) (fun H' G => fin D H' hD (by rw [<- all]; exact G)) (fun i H' hi G b => ?_)⟩
       refine ⟨by show (0 : Int) < 26; decide,?_⟩
       refine ixStr (z := R) (by omega) (by rw [rt]; exact atI_getD (by omega) (by rw [rot_len (by omega)]; omega)) ?_
       refine slStr (z := R) (by omega) ?_
       refine ⟨by show 1 + _ <= sizeLine; omega,?_⟩
       refine put i D H' _ hi hD G ?_
       subst pk1
       rw [app_list,cutR]
       unfold nameL
       rw [if_neg (by decide),if_pos rfl]
       have ei : ((0 + (i : Int)) % 26).toNat = i % 26 := by omega
       show (rot t).getD ((0 + (i : Int)) % 26).toNat 0 :: _ = _
       rw [ei]
       rfl
     . have pk2 : pick ≠ 0 /\ pick ≠ 1 := ⟨fun e => c1 (decide_eq_true (by rw [e]; rfl)),fun e => c2 (decide_eq_true (by rw [e]; rfl))⟩
       refine ⟨12,rfl,by decide,by decide,fun D hD => comp_range (lo := 0) (n := 12) (fun i H' => Grow H3 H' D (((namesL t size pick).take i).map V.str)) (Grow.start hD) (fun H' G => fin D H' hD (by rw [<- all]; exact G)) (fun i H' hi G b => ?_)⟩
       refine slStr (z := R) (by omega) ?_
       refine ⟨by show (0 : Int) < 26; decide,?_⟩
       refine ixStr (z := R) (by omega) (by rw [rt]; exact atI_getD (by omega) (by rw [rot_len (by omega)]; omega)) ?_
       refine ⟨by show _ + 1 <= sizeLine; omega,?_⟩
       refine put i D H' _ hi hD G ?_
       rw [app_list,cutR]
       unfold nameL
       rw [if_neg pk2.1,if_neg pk2.2]
       congr 1
       show [_] = [_]
       congr 2; omega
theorem sc_is : FnScope ["_law_found","_law_due"] ["_law_found","_law_due"] (defScope sIs) := ⟨rfl,rfl,rfl,by decide +kernel,rfl,by decide +kernel,by decide +kernel⟩
theorem ok_is {f : Addr} {fd : FuncData} (F : Fun K "_law_is" "_law_is" sIs f fd) (T : Txt mg t8) : FnOk P w K mg base CX0 1 f fd ["_law_found","_law_due"] spIs := by
 refine F.ok sc_is (fun vs H Q E h => ?_) (fun cdv A outer s H vs Q E hr h => ?_)
 . obtain ⟨b,c,rfl,_⟩ := h
   rfl
 . obtain ⟨b,c,rfl,q⟩ := h
   refine ⟨_,(pss_one (ps_ret (peAnd (pe_callB call_isi rfl T.isi PyProof.Rows.boot_isinstance (pa_cons (pV 0) (pa_cons (pe_bltn (v := .ty "bool") rfl T.bool PyProof.Rows.boot_bool rfl) pa_nil))) (pe_one (pe_cmpR op_eq (pV 0) (pV 1) (nomark _)))))),?_⟩
   refine ⟨.bl b,_,_,_,rfl,.bl b,(kit8 (K := K) (TyOf.bl (H := H) b)).2.1,?_⟩
   refine ⟨rfl,?_⟩
   have e : decide (V.bl b = V.bl c) = (b == c) := by cases b <;> cases c <;> rfl
   rw [e]
   exact q
end
end K04
namespace K04
open PySem L2 K02
structure GoodW (h : House) : Prop extends GoodHouse h where
 narrow : h.high - h.low <= 300
def spMkHouse : Sp := fun vs H Q _ => ∃ (p : Addr) (nm : Str) (ln : Addr) (ss : List Str) (room : Int),vs = [.ref p,.str nm,.ref ln,.int room] /\ PackAt H p /\ Good nm /\ H ln = some (.lst (ss.map V.str)) /\ ss.length <= 12 /\ ss.Nodup /\ (∀ s ∈ ss,Good s) /\
 ∀ (r d : Addr) (hv : V) (h : House) (kvs : List (Key × V)) (m : Nat) (H' : Hp),H r = none -> H d = none -> H' r = some (.tup [hv,.ref d]) -> HouseAt H' hv h -> GoodW h -> h.name = nm -> namesH h = ss.take m -> m <= ss.length -> ((m : Int) <= room ∨ m = 0) ->
   H' d = some (.dK kvs) -> kvs.map (·.1) = (ss.take m).map Sum.inr -> (∀ n ∈ ss.take m,∃ i : Int,valV kvs (.inr n) = some (.int i)) -> PackAt H' p -> SameB p H H' -> Q (.ref r) H'
section
variable {P : Program} {w : World} {K : PySem.W.Frag} {mg : Str -> Option Value} {base : Heap} {t8 : Tok}
theorem sc_mkhouse : FnScope ["_law_pack_here","_law_name","_law_names_here","_law_room","_law_low","_law_wide","_law_drift","_law_moment","_law_runs","_law_hidden","_law_at","_law_turn","_law_off","_law_rows_here","_law_step","_law_reading"] ["_law_pack_here","_law_name","_law_names_here","_law_room"] (defScope sMkHouse) := ⟨rfl,rfl,rfl,by decide +kernel,rfl,by decide +kernel,by decide +kernel⟩
theorem ok_mkhouse {f F_t : Addr} {fd D_t : FuncData} (F : Fun K "_law_house" "_law_house" sMkHouse f fd) (T : Txt mg t8)
   (G_t : FnOk P w K mg base CX0 1 F_t D_t ["_law_pack_here","_law_size"] spTake) (M_t : mg "_law_take" = some (.ref F_t)) (N_t : PySem.W.keepIn K (.ref F_t) = true) (B_t : Binds K D_t ["_law_pack_here","_law_size"] []) : FnOk P w K mg base CX0 2 f fd ["_law_pack_here","_law_name","_law_names_here","_law_room"] spMkHouse := by
 refine F.ok sc_mkhouse (fun vs H Q E h => ?_) (fun cdv A outer s H vs Q E hr h => ?_)
 . obtain ⟨p,nm,ln,ss,room,rfl,_⟩ := h
   rfl
 . obtain ⟨p,nm,ln,ss,room,rfl,hp,gn,hln,few,nd,gs,q⟩ := h
   have sl0 : sizeLine = 16777216 := sizeLine_eq
   have nln : ln ≠ p := fun z => by
     obtain ⟨n,e,_⟩ := hp
     rw [z,e] at hln
     cases ss with
     | nil => cases hln
     | cons s ss => cases hln
   refine ⟨_,(pss_cons (ps_set (i := 4) sc_mkhouse.nd rfl (Or.inl rfl) (pe_op oSub (pe_call G_t hr rfl M_t N_t B_t .nil pass0 (pa_cons (pV 0) (pa_cons pe_int pa_nil))) pe_int)) (pss_cons (ps_set (i := 5) sc_mkhouse.nd rfl (Or.inl rfl) (pe_ix iIx (pe_lst (pa_cons pe_int (pa_cons pe_int (pa_cons pe_int (pa_cons pe_int pa_nil))))) (pe_call G_t hr rfl M_t N_t B_t .nil pass0 (pa_cons (pV 0) (pa_cons pe_int pa_nil))) (fun _ _ => rfl))) (pss_cons (ps_set (i := 6) sc_mkhouse.nd rfl (Or.inl rfl) (pe_ix iIx (pe_lst (pa_cons pe_int (pa_cons pe_int (pa_cons pe_int (pa_cons pe_int pa_nil))))) (pe_call G_t hr rfl M_t N_t B_t .nil pass0 (pa_cons (pV 0) (pa_cons pe_int pa_nil))) (fun _ _ => rfl))) (pss_cons (ps_set (i := 7) sc_mkhouse.nd rfl (Or.inl rfl) (pe_op oSub (pe_call G_t hr rfl M_t N_t B_t .nil pass0 (pa_cons (pV 0) (pa_cons pe_int pa_nil))) pe_int)) (pss_cons (ps_set (i := 8) sc_mkhouse.nd rfl (Or.inl rfl) (pe_lst pa_nil)) (pss_cons (ps_set (i := 9) sc_mkhouse.nd rfl (Or.inl rfl) pe_dnewK) (pss_cons (ps_set (i := 10) sc_mkhouse.nd rfl (Or.inl rfl) pe_int) (pss_cons (ps_for PassesOwn.never rfl (pi_range1 rfl T.range (pa_cons (pe_call G_t hr rfl M_t N_t B_t .nil pass0 (pa_cons (pV 0) (pa_cons pe_int pa_nil))) pa_nil)) (pg_name (i := 11) sc_mkhouse.nd rfl (Or.inl rfl)) (pss_cons (ps_set (i := 12) sc_mkhouse.nd rfl (Or.inl rfl) (pe_op oAdd (pV 4) (pe_call G_t hr rfl M_t N_t B_t .nil pass0 (pa_cons (pV 0) (pa_cons (pe_op oAdd (pV 5) pe_int) pa_nil))))) (pss_cons (ps_set (i := 13) sc_mkhouse.nd rfl (Or.inl rfl) (pe_lst pa_nil)) (pss_cons (ps_for PassesOwn.never rfl (pi_range1 rfl T.range (pa_cons (pe_op oAdd pe_int (pe_call G_t hr rfl M_t N_t B_t .nil pass0 (pa_cons (pV 0) (pa_cons pe_int pa_nil)))) pa_nil)) (pg_name (i := 14) sc_mkhouse.nd rfl (Or.inl rfl)) (pss_one (ps_if (ptAnd (ptC oLt (pV 10) (pV 3) (nomark _)) (pw_and1 (ptC oLt (pV 10) (pe_callB call_len_seq rfl T.len PySem.boot_len (pa_cons (pV 2) pa_nil)) (nomark _)))) (pss_cons (ps_set (i := 7) sc_mkhouse.nd rfl (Or.inl rfl) (pe_op oAdd (pe_op oAdd (pV 7) pe_int) (pe_call G_t hr rfl M_t N_t B_t .nil pass0 (pa_cons (pV 0) (pa_cons pe_int pa_nil))))) (pss_cons (ps_set (i := 15) sc_mkhouse.nd rfl (Or.inl rfl) (pe_op oAdd (pV 7) (pV 12))) (pss_cons (ps_if (ptAnd (ptC (oNeNil hr.units) (pV 13) (pe_lst pa_nil) (nomark _)) (pw_and (ptC oLe (pe_op oAdd (pV 12) pe_int) (pe_op oAdd (pV 4) (pV 5)) (nomark _)) (pw_and (ptC oEq (pe_call G_t hr rfl M_t N_t B_t .nil pass0 (pa_cons (pV 0) (pa_cons pe_int pa_nil))) pe_int (nomark _)) (pw_and1 (ptC oGt (pV 6) pe_int (nomark _)))))) (pss_one (ps_set (i := 15) sc_mkhouse.nd rfl (Or.inl rfl) (pe_op oAdd (pV 15) pe_int))) pss_nil) (pss_cons (ps_if (ptAnd (ptC (oNeNil hr.units) (pV 13) (pe_lst pa_nil) (nomark _)) (pw_and1 (ptC oLe (pV 15) (pe_ix iIxT (pe_ix iIx (pV 13) (pe_un uNeg pe_int) (fun _ _ => rfl)) pe_int (fun _ _ => rfl)) (nomark _)))) (pss_one (ps_set (i := 15) sc_mkhouse.nd rfl (Or.inl rfl) (pe_op oAdd (pe_ix iIxT (pe_ix iIx (pV 13) (pe_un uNeg pe_int) (fun _ _ => rfl)) pe_int (fun _ _ => rfl)) pe_int))) pss_nil) (pss_cons (ps_dput (hu_of hr) (pV 9) (pe_ix iIx (pV 2) (pV 10) (fun _ _ => rfl)) (pV 7) rfl) (pss_cons (ps_expr (pe_bm PySem.F.plainAttrs_list PySem.F.slot_list_append PySem.F.type_list_append mt_append (pV 13) (pa_cons (pe_tup (pa_cons (pe_ix iIx (pV 2) (pV 10) (fun _ _ => rfl)) (pa_cons (pV 15) pa_nil))) pa_nil))) (pss_one (ps_set (i := 10) sc_mkhouse.nd rfl (Or.inl rfl) (pe_op oAdd (pV 10) pe_int))))))))) pss_nil))) (pss_cons (ps_if (ptC (oNeNil hr.units) (pV 13) (pe_lst pa_nil) (nomark _)) (pss_one (ps_expr (pe_bm PySem.F.plainAttrs_list PySem.F.slot_list_append PySem.F.type_list_append mt_append (pV 8) (pa_cons (pe_callTy call_tuple_of rfl T.tuple PyProof.Rows.boot_tuple (pa_cons (pV 13) pa_nil)) pa_nil)))) pss_nil) (pss_one (ps_set (i := 7) sc_mkhouse.nd rfl (Or.inl rfl) (pe_op oAdd (pV 7) (pe_call G_t hr rfl M_t N_t B_t .nil pass0 (pa_cons (pV 0) (pa_cons pe_int pa_nil))))))))))) (pss_one (ps_ret (pe_tup (pa_cons (pe_tup (pa_cons (pV 1) (pa_cons (pV 4) (pa_cons (pe_op oAdd (pV 4) (pV 5)) (pa_cons (pV 6) (pa_cons (pe_callTy call_tuple_of rfl T.tuple PyProof.Rows.boot_tuple (pa_cons (pV 8) pa_nil)) pa_nil)))))) (pa_cons (pV 9) pa_nil))))))))))))),?_⟩
   refine asg_i fun U1 hU1 => ?_
   refine ⟨p,41,rfl,hp,by decide,by decide,fun d1 H1 _ _ hp1 s1 => ?_⟩
   show U1 _ _
   subst hU1
   refine asg_i fun U2 hU2 => ?_
   refine ⟨by show 4 <= sizeLine; omega,fun l1 hl1 => ?_⟩
   refine ⟨p,4,rfl,hp1.new hl1,by decide,by decide,fun d2 H2 d2a d2b hp2 s2 => ?_⟩
   have nl1 : l1 ≠ p := fun z => by obtain ⟨n,e,_⟩ := hp1; rw [<- z,hl1] at e; cases e
   obtain ⟨wide,ew,w0,w1⟩ := menu4 (a := 0) (b := 3) (c := 40) (e := 300) d2a d2b (by decide) (by decide) (by decide) (by decide)
   refine ixAt (s2 l1 _ nl1 upd_same) ew ?_
   show U2 _ _
   subst hU2
   have S2 : SameB p H H2 := ((SameB.of (Same.refl H)).trans s1 |>.new hl1).trans s2
   refine asg_i fun U3 hU3 => ?_
   refine ⟨by show 4 <= sizeLine; omega,fun l2 hl2 => ?_⟩
   refine ⟨p,4,rfl,hp2.new hl2,by decide,by decide,fun d3 H3 d3a d3b hp3 s3 => ?_⟩
   have nl2 : l2 ≠ p := fun z => by obtain ⟨n,e,_⟩ := hp2; rw [<- z,hl2] at e; cases e
   obtain ⟨drift,ed,dr0,dr1⟩ := menu4 (a := 0) (b := 1) (c := 2) (e := 9) d3a d3b (by decide) (by decide) (by decide) (by decide)
   refine ixAt (s3 l2 _ nl2 upd_same) ed ?_
   show U3 _ _
   subst hU3
   have S3 : SameB p H H3 := (S2.new hl2).trans s3
   refine asg_i fun U4 hU4 => ?_
   refine ⟨p,60,rfl,hp3,by decide,by decide,fun d4 H4 _ _ hp4 s4 => ?_⟩
   show U4 _ _
   subst hU4
   have S4 : SameB p H H4 := S3.trans s4
   refine asg_i fun U5 hU5 => ?_
   refine ⟨Nat.zero_le _,fun R hR => ?_⟩
   show U5 _ _
   subst hU5
   have nR : R ≠ p := fun z => by obtain ⟨n,e,_⟩ := hp4; rw [<- z,hR] at e; cases e
   have fR : H R = none := by
     cases e : H R with
     | none => rfl
     | some o => have := S4 R o nR e; rw [hR] at this; cases this
   refine asg_i fun U6 hU6 => ?_
   refine fun D hD => ?_
   show U6 _ _
   subst hU6
   have hp5 := hp4.new (o := .lst []) hR
   have S5 : SameB p H (upd H4 R (.lst [])) := S4.new hR
   have nD : D ≠ p := fun z => by obtain ⟨n,e,_⟩ := hp5; rw [<- z,hD] at e; cases e
   have nRD : R ≠ D := ne_of_none upd_same hD
   have fD : H D = none := by
     cases e : H D with
     | none => rfl
     | some o => have := S5 D o nD e; rw [hD] at this; cases this
   have nlD : ln ≠ D := ne_of_none hln fD
   refine ⟨p,6,rfl,hp5.new hD,by decide,by decide,fun n1 H6 n1a n1b hp6 s6 => ?_⟩
   have S6 : SameB p H H6 := (S5.new hD).trans s6
   obtain ⟨low,hlow⟩ : ∃ low,low = d1 - 20 := ⟨_,rfl⟩
   refine ⟨n1,rfl,by omega,by omega,for_range (lo := 0) (n := n1.toNat) (PvA p ln R D nm room low wide drift H ss) ?_ (fun i σ H' hi hz16 => ?_) (fun σ H' hz17 => ?_)⟩
   . exact ⟨_,0,[],[],[],none,none,none,none,none,by subst hlow; rfl,⟨hp6,S6,s6 R _ nR (by rw [upd_ne nRD]; exact upd_same),.nil,s6 D _ nD upd_same,rfl,fun n hn => by simp at hn,Nat.zero_le _,.inr rfl,fun r hr => by simp at hr⟩,rfl,Nat.zero_le _⟩
   . obtain ⟨mo,m,vr,kvs,runs,o11,o12,o13,o14,o15,eσ,S,fl,rl⟩ := hz16
     subst eσ
     refine ⟨p,wide + 1,rfl,S.pack,by omega,by omega,fun ofv Ha _ _ hpa sa => ?_⟩
     have Sa := S.step nR nD hpa sa
     refine ⟨Nat.zero_le _,fun L hL => ?_⟩
     have Sb := Sa.new (o := .lst []) nR nD hL
     have nLp : L ≠ p := fun z => by obtain ⟨n,e,_⟩ := Sa.pack; rw [<- z,hL] at e; cases e
     have nLR : L ≠ R := fun z => by rw [z,Sa.hR] at hL; cases hL
     have nLD : L ≠ D := fun z => by rw [z,Sa.hD] at hL; cases hL
     have fL : H L = none := by
       cases e : H L with
       | none => rfl
       | some o => have := Sa.same L o nLp e; rw [hL] at this; cases this
     refine ⟨p,5,rfl,Sb.pack,by decide,by decide,fun n2 Hc n2a n2b hpc sc => ?_⟩
     have Sc := Sb.step nR nD hpc sc
     have hLc : Hc L = some (.lst []) := sc L _ nLp upd_same
     refine ⟨1 + n2,rfl,by omega,by omega,for_range (lo := 0) (n := (1 + n2).toNat) (PvB p ln R D L nm room low wide drift ofv H ss i vr runs) ?_ (fun j σ H'' hj hz18 => ?_) (fun σ H'' hz19 => ?_)⟩
     . exact ⟨mo,m,kvs,[],[],_,_,rfl,Sc,hLc,.nil,by rw [List.append_nil]; exact fl,Nat.zero_le _,List.Pairwise.nil⟩
     . obtain ⟨mo,m,kvs,vl,rs,o14,o15,eσ,S,hL',pl,fl',rl',ris⟩ := hz18
       subst eσ
       have gr : ∀ r ∈ rs,Good r.1 := fun r hr => gs r.1 (by
         have z : r.1 ∈ ss.take m := by rw [<- fl',List.map_append]; exact List.mem_append_right _ (List.mem_map_of_mem hr)
         exact List.mem_of_mem_take z)
       have skip : ∃ (mo' : Int) (m' : Nat) (kvs' : List (Key × V)) (vl' : List V) (rs' : List Row) (o14' o15' : Option V),([some (.ref p),some (.str nm),some (.ref ln),some (.int room),some (.int low),some (.int wide),some (.int drift),some (.int mo),some (.ref R),some (.ref D),some (.int (m : Int)),some (.int (0 + (i : Int))),some (.int (low + ofv)),some (.ref L),some (.int (0 + (j : Int))),o15] : St) = [some (.ref p),some (.str nm),some (.ref ln),some (.int room),some (.int low),some (.int wide),some (.int drift),some (.int mo'),some (.ref R),some (.ref D),some (.int (m' : Int)),some (.int (0 + (i : Int))),some (.int (low + ofv)),some (.ref L),o14',o15'] /\
         HS H p R D ss room H'' vr kvs' runs m' /\ H'' L = some (.lst vl') /\ Paired (RowAt H'') vl' rs' /\ (runs.flatten ++ rs').map Prod.fst = ss.take m' /\ rs'.length <= j + 1 /\ (rs'.map Prod.snd).Pairwise (· < ·) := ⟨mo,m,kvs,vl,rs,_,_,rfl,S,hL',pl,fl',Nat.le_succ_of_le rl',ris⟩
       refine ite2 (fun c1 => ?_) (fun c1 => skip)
       refine ⟨ln,_,rfl,.inl (SqL.of (S.same ln _ nln hln)),?_⟩
       refine ite2 (fun c2 => ?_) (fun c2 => skip)
       clear skip
       have hroom : (m : Int) < room := of_decide_eq_true c1
       have hlen : m < ss.length := by
         have z : (m : Int) < ((ss.map V.str).length : Int) := of_decide_eq_true c2
         rw [List.length_map] at z; omega
       refine hideP fun Rz1 hRz1 => ?_
       obtain ⟨n,hn⟩ : ∃ n,ss[m]? = some n := ⟨ss[m],List.getElem?_eq_getElem hlen⟩
       subst hRz1
       refine asg_i fun V1 hV1 => ?_
       refine ⟨p,30,rfl,S.pack,by decide,by decide,fun d5 Hd _ _ hpd sd => ?_⟩
       show V1 _ _
       subst hV1
       refine asg_i fun V2 hV2 => ?_
       show V2 _ _
       subst hV2
       have Sd := S.step nR nD hpd sd
       have hLd : Hd L = some (.lst vl) := sd L _ nLp hL'
       have pld : Paired (RowAt Hd) vl rs := paired_mono (fun _ _ z => z.ts (SameB.tups S.pack sd)) pl
       refine if_join (NvR p ln R D L nm room low wide drift ofv (mo + 1 + d5) m (.int (0 + (i : Int))) (.int (0 + (j : Int))) H ss vr vl kvs runs rs (fun _ => True)) (fun U hU => ?_) (fun σ2 H2 hN2 => ?_)
       . have fin0 : ∀ (rd : Int) (H9 : Hp),HS H p R D ss room H9 vr kvs runs m -> H9 L = some (.lst vl) -> Paired (RowAt H9) vl rs -> U [some (.ref p),some (.str nm),some (.ref ln),some (.int room),some (.int low),some (.int wide),some (.int drift),some (.int (mo + 1 + d5)),some (.ref R),some (.ref D),some (.int (m : Int)),some (.int (0 + (i : Int))),some (.int (low + ofv)),some (.ref L),some (.int (0 + (j : Int))),some (.int rd)] H9 := fun rd H9 x1 x2 x3 => hU _ _ ⟨rd,rfl,x1,x2,x3,trivial⟩
         refine ⟨Nat.zero_le _,fun e1 he1 => ?_⟩
         have Se := Sd.new (o := .lst []) nR nD he1
         have hLe : upd Hd e1 (.lst []) L = some (.lst vl) := (upd_ne (ne_of_none hLd he1)).trans hLd
         have ple : Paired (RowAt (upd Hd e1 (.lst []))) vl rs := paired_mono (fun _ _ z => z.ts ((Tups.refl Hd).new he1)) pld
         refine neNil hLe ple gr upd_same ?_
         generalize (!rs.isEmpty) = bb
         cases bb with
         | false => exact fin0 _ _ Se hLe ple
         | true =>
           refine ite2 (fun k1 => ?_) (fun k1 => fin0 _ _ Se hLe ple)
           refine ⟨p,3,rfl,Se.pack,by decide,by decide,fun d6 Hh _ _ hph sh => ?_⟩
           have Sh := Se.step nR nD hph sh
           have hLh : Hh L = some (.lst vl) := sh L _ nLp hLe
           have plh : Paired (RowAt Hh) vl rs := paired_mono (fun _ _ z => z.ts (SameB.tups Se.pack sh)) ple
           exact ite2 (fun k2 => ite2 (fun k3 => fin0 _ _ Sh hLh plh) (fun k3 => fin0 _ _ Sh hLh plh)) (fun k2 => fin0 _ _ Sh hLh plh)
       refine hideP fun Rz1 hRz1 => ?_
       obtain ⟨rd,eσ2,Sx,hLx,plx,_⟩ := hN2
       subst hRz1
       subst eσ2
       refine if_join (NvR p ln R D L nm room low wide drift ofv (mo + 1 + d5) m (.int (0 + (i : Int))) (.int (0 + (j : Int))) H ss vr vl kvs runs rs (fun rd => ∀ r ∈ rs,r.2 < rd)) (fun U hU => ?_) (fun σ3 H3 hN3 => ?_)
       . refine ⟨Nat.zero_le _,fun fa hfa => ?_⟩
         have Sga := Sx.new (o := .lst []) nR nD hfa
         have hLga : upd H2 fa (.lst []) L = some (.lst vl) := (upd_ne (ne_of_none hLx hfa)).trans hLx
         have plga : Paired (RowAt (upd H2 fa (.lst []))) vl rs := paired_mono (fun _ _ z => z.ts ((Tups.refl _).new hfa)) plx
         refine neNil hLga plga gr upd_same ?_
         rcases List.eq_nil_or_concat rs with er | ⟨rs0,rl0,er⟩
         . subst er
           exact hU _ _ ⟨_,rfl,Sga,hLga,plga,fun r hr => by simp at hr⟩
         . rw [List.concat_eq_append] at er
           have ne : (!rs.isEmpty) = true := by rw [er]; simp
           rw [ne]
           have lastI : ∃ vl0 vL,vl = vl0 ++ [vL] /\ ∀ Hx,Paired (RowAt Hx) vl rs -> RowAt Hx vL rl0 := by
             have hv : vl ≠ [] := fun z => by
               have := pl.length
               rw [z,er] at this
               simp at this
             obtain ⟨vl0,vL,ev⟩ := (List.eq_nil_or_concat vl).resolve_left hv
             rw [List.concat_eq_append] at ev
             refine ⟨vl0,vL,ev,fun Hx px => ?_⟩
             have l1 := px.length
             rw [ev,er,List.length_append,List.length_append] at l1
             have e1 : vl[vl0.length]? = some vL := by rw [ev]; simp
             obtain ⟨r,hr,ra⟩ := paired_getL px e1
             have e2 : rs[vl0.length]? = some rl0 := by
               have : vl0.length = rs0.length := by simpa using l1
               rw [er,this]; simp
             rw [e2] at hr
             cases hr
             exact ra
           obtain ⟨vl0,vL,evl,lastR⟩ := lastI
           obtain ⟨gaa,rfl,gba⟩ := lastR _ plga
           have lastLt : ∀ rd : Int,rl0.2 < rd -> ∀ r ∈ rs,r.2 < rd := fun rd h r hr => by
             rw [er] at hr ris
             rcases List.mem_append.mp hr with z | z
             . rw [List.map_append] at ris
               have := (List.pairwise_append.mp ris).2.2 r.2 (List.mem_map_of_mem z) rl0.2 (by simp)
               omega
             . rw [List.mem_singleton.mp z]; exact h
           refine ixAt hLga (i := -1) (v := .ref gaa) (by rw [evl]; exact atI_last) ?_
           refine ixTup (SqT.of gba) (i := 1) (v := .int rl0.2) (by rfl) ?_
           refine ite2 (fun cc => ?_) (fun cc => ?_)
           . refine ixAt hLga (i := -1) (v := .ref gaa) (by rw [evl]; exact atI_last) ?_
             refine ixTup (SqT.of gba) (i := 1) (v := .int rl0.2) (by rfl) ?_
             exact hU _ _ ⟨_,rfl,Sga,hLga,plga,lastLt _ (by omega)⟩
           . have cc2 : ¬ rd <= rl0.2 := fun z => cc (decide_eq_true z)
             exact hU _ _ ⟨_,rfl,Sga,hLga,plga,lastLt _ (by omega)⟩
       refine hideP fun Rz1 hRz1 => ?_
       obtain ⟨rd,eσ3,Sy,hLy,ply,lt⟩ := hN3
       subst hRz1
       subst eσ3
       refine ixAt (Sy.same ln _ nln hln) (i := (m : Int)) (v := .str n) (atI_nat (by rw [List.getElem?_map,hn]; rfl)) ?_
       refine ⟨D,_,rfl,DPut.k (k := Sum.inr n) Sy.hD (by have z := congrArg List.length Sy.keys; rw [List.length_map,List.length_map,List.length_take] at z; omega),?_⟩
       have hLq : upd H3 D (.dK (putK kvs (.inr n) (.int (mo + 1 + d5)))) L = some (.lst vl) := (upd_ne nLD).trans hLy
       refine ⟨.inl ⟨rfl,_,SqL.of hLq⟩,?_⟩
       refine ixAt ((upd_ne nlD).trans (Sy.same ln _ nln hln)) (i := (m : Int)) (v := .str n) (atI_nat (by rw [List.getElem?_map,hn]; rfl)) ?_
       refine ⟨by show 2 <= sizeLine; omega,fun tp htp => ?_⟩
       obtain ⟨Sq,pq⟩ := HS.put (rd := rd) Sy nR nD nRD nLp nLR nLD fD fL nd hn hroom hLy ply htp
       refine ⟨L,vl,_,rfl,rfl,(upd_ne (ne_of_none hLq htp)).trans hLq,by have z := ply.length; omega,?_⟩
       exact ⟨_,m + 1,_,_,rs ++ [(n,rd)],_,_,rfl,Sq,upd_same,pq,by rw [<- List.append_assoc,List.map_append,fl',take_get hn]; rfl,by rw [List.length_append]; exact Nat.add_le_add_right rl' 1,rise_snoc ris lt⟩
     . obtain ⟨mo,m,kvs,vl,rs,o14,o15,eσ,S,hL',pl,fl',rl',ris⟩ := hz19
       subst eσ
       have gr : ∀ r ∈ rs,Good r.1 := fun r hr => gs r.1 (by
         have z : r.1 ∈ ss.take m := by rw [<- fl',List.map_append]; exact List.mem_append_right _ (List.mem_map_of_mem hr)
         exact List.mem_of_mem_take z)
       refine ⟨Nat.zero_le _,fun e1 he1 => ?_⟩
       have Se := S.new (o := .lst []) nR nD he1
       have hLe : upd H'' e1 (.lst []) L = some (.lst vl) := (upd_ne (ne_of_none hL' he1)).trans hL'
       have ple : Paired (RowAt (upd H'' e1 (.lst []))) vl rs := paired_mono (fun _ _ z => z.ts ((Tups.refl _).new he1)) pl
       have lr := ple.length
       have lrr := Se.pR.length
       refine neNil hLe ple gr upd_same ?_
       refine ite2 (fun c1 => ?_) (fun c1 => ?_)
       . have rne : rs ≠ [] := fun z => by rw [z] at c1; cases c1
         refine ⟨.inl ⟨rfl,_,SqL.of Se.hR⟩,?_⟩
         refine ⟨L,vl,rfl,.inl ⟨SqL.of hLe,fun t9 ht9 => ?_⟩⟩
         have St := Se.new (o := .tup vl) nR nD ht9
         refine ⟨R,vr,_,rfl,rfl,St.hR,by omega,?_⟩
         have tt : Tups (upd (upd H'' e1 (.lst [])) t9 (.tup vl)) (upd (upd (upd H'' e1 (.lst [])) t9 (.tup vl)) R (.lst (vr ++ [.ref t9]))) := (Tups.refl _).put St.hR (fun _ z => nomatch z)
         have Su : HS H p R D ss room (upd (upd (upd H'' e1 (.lst [])) t9 (.tup vl)) R (.lst (vr ++ [.ref t9]))) (vr ++ [.ref t9]) kvs (runs ++ [rs]) m := by
           refine ⟨St.pack.put nR,fun b o hb e => ?_,upd_same,?_,(upd_ne (Ne.symm nRD)).trans St.hD,St.keys,St.vals,St.le,St.rm,fun r hr => ?_⟩
           . rw [upd_ne (ne_of_none e fR)]; exact St.same b o hb e
           . refine paired_app (paired_mono (fun _ _ z => z.ts tt) St.pR) (.cons ⟨t9,vl,rfl,tt _ _ upd_same,paired_mono (fun _ _ z => z.ts (((Tups.refl _).new ht9).trans tt)) ple⟩ .nil)
           . rcases List.mem_append.mp hr with z | z
             . exact St.good r z
             . rw [List.mem_singleton.mp z]
               exact ⟨rne,by omega,gr,ris⟩
         refine ⟨p,5,rfl,Su.pack,by decide,by decide,fun d9 Hz _ _ hpz sz => ?_⟩
         exact ⟨_,m,_,kvs,runs ++ [rs],_,_,_,_,_,rfl,Su.step nR nD hpz sz,by rw [List.flatten_append]; simpa using fl',by rw [List.length_append]; exact Nat.add_le_add_right rl 1⟩
       . have rne : rs = [] := by
           cases rs with
           | nil => rfl
           | cons r rs => exact absurd rfl c1
         subst rne
         refine ⟨p,5,rfl,Se.pack,by decide,by decide,fun d9 Hz _ _ hpz sz => ?_⟩
         exact ⟨_,m,_,kvs,runs,_,_,_,_,_,rfl,Se.step nR nD hpz sz,by simpa using fl',Nat.le_succ_of_le rl⟩
   . obtain ⟨mo,m,vr,kvs,runs,o11,o12,o13,o14,o15,eσ,S,fl,rl⟩ := hz17
     subst eσ
     have lr := S.pR.length
     refine ⟨R,vr,rfl,.inl ⟨SqL.of S.hR,fun t1 h1 => ?_⟩⟩
     have Sa := S.new (o := .tup vr) nR nD h1
     refine ⟨by show 5 <= sizeLine; omega,fun t2 h2 => ?_⟩
     have Sb := Sa.new (o := .tup [.str nm,.int low,.int (low + wide),.int drift,.ref t1]) nR nD h2
     refine ⟨by show 2 <= sizeLine; omega,fun t3 h3 => ?_⟩
     have Sc := Sb.new (o := .tup [.ref t2,.ref D]) nR nD h3
     have nt3 : t3 ≠ p := fun z => by obtain ⟨n,e,_⟩ := Sb.pack; rw [<- z,h3] at e; cases e
     have ft3 : H t3 = none := by
       cases e : H t3 with
       | none => rfl
       | some o => have := Sb.same t3 o nt3 e; rw [h3] at this; cases this
     refine q t3 D (.ref t2) ⟨nm,low,low + wide,drift,runs⟩ kvs m _ ft3 fD upd_same ⟨t2,.ref t1,rfl,(upd_ne (ne_of_none upd_same h3)).trans upd_same,t1,vr,rfl,?_,Sc.pR⟩ ⟨⟨gn,by show low <= low + wide; omega,dr0,by show runs.length <= 25; omega,Sc.good⟩,by show low + wide - low <= 300; omega⟩ rfl fl Sc.le Sc.rm Sc.hD Sc.keys Sc.vals Sc.pack Sc.same
     have e1 : upd (upd H' t1 (.tup vr)) t2 (.tup [.str nm,.int low,.int (low + wide),.int drift,.ref t1]) t1 = some (.tup vr) := (upd_ne (ne_of_none upd_same h2)).trans upd_same
     exact (upd_ne (ne_of_none e1 h3)).trans e1
end
end K04
namespace K04
open PySem L2 K02
section
variable {P : Program} {w : World} {K : PySem.W.Frag} {mg : Str -> Option Value} {base : Heap} {t8 : Tok}
theorem sc_mkletters : FnScope ["_law_pack_here","_law_houses","_law_hidden","_law_home","_law_house_here","_law_run","_law_name","_law_reading","_law_rows_here","_law_found","_law_turn","_law_one","_law_other","_law_gap","_law_slack","_law_most"] ["_law_pack_here","_law_houses","_law_hidden"] (defScope sMkLetters) := ⟨rfl,rfl,rfl,by decide +kernel,rfl,by decide +kernel,by decide +kernel⟩
theorem ok_mkletters {f F_t : Addr} {fd D_t : FuncData} (F : Fun K "_law_letters" "_law_letters" sMkLetters f fd) (T : Txt mg t8)
   (G_t : FnOk P w K mg base CX0 1 F_t D_t ["_law_pack_here","_law_size"] spTake) (M_t : mg "_law_take" = some (.ref F_t)) (N_t : PySem.W.keepIn K (.ref F_t) = true) (B_t : Binds K D_t ["_law_pack_here","_law_size"] []) : FnOk P w K mg base CX0 2 f fd ["_law_pack_here","_law_houses","_law_hidden"] spMkLetters := by
 refine F.ok sc_mkletters (fun vs H Q E h => ?_) (fun cdv A outer s H vs Q E hr h => ?_)
 . obtain ⟨p,lh,dh,vh,hs,kvs,rfl,_⟩ := h
   rfl
 . obtain ⟨p,lh,dh,vh,hs,kvs,rfl,hp,hlh,ph,h6,gh,nd,few,hdh,keys,vals,q⟩ := h
   have sl0 : sizeLine = 16777216 := sizeLine_eq
   have nlh : lh ≠ p := fun z => by
     obtain ⟨n,e,_⟩ := hp
     rw [z,e] at hlh
     cases ph with
     | nil => cases hlh
     | cons h _ => obtain ⟨a,b,rfl,_⟩ := h; cases hlh
   have ndh : dh ≠ p := fun z => by obtain ⟨n,e,_⟩ := hp; rw [z,e] at hdh; cases hdh
   refine ⟨_,(pss_cons (ps_set (i := 3) sc_mkletters.nd rfl (Or.inl rfl) pe_dnewK) (pss_cons (ps_for PassesOwn.never rfl (pi_list (pV 1)) (pg_name (i := 4) sc_mkletters.nd rfl (Or.inl rfl)) (pss_one (ps_for PassesOwn.never rfl (pi_tup (pe_ix iIxT (pV 4) pe_int (fun _ _ => rfl))) (pg_name (i := 5) sc_mkletters.nd rfl (Or.inl rfl)) (pss_one (ps_for PassesOwn.never rfl (pi_tup (pV 5)) (pg_tup rfl (pgs_cons (pg_name (i := 6) sc_mkletters.nd rfl (Or.inl rfl)) (pgs_cons (pg_name (i := 7) sc_mkletters.nd rfl (Or.inl rfl)) pgs_nil))) (pss_one (ps_dput (hu_of hr) (pV 3) (pV 6) (pe_ix iIxT (pV 4) pe_int (fun _ _ => rfl)) rfl))))))) (pss_cons (ps_set (i := 8) sc_mkletters.nd rfl (Or.inl rfl) (pe_callB (call_sortedD rfl) rfl T.sorted PyProof.Rows.boot_sorted (pa_cons (pV 2) pa_nil))) (pss_cons (ps_set (i := 9) sc_mkletters.nd rfl (Or.inr rfl) pe_dnewT) (pss_cons (ps_for PassesOwn.never rfl (pi_range1 rfl T.range (pa_cons (pe_call G_t hr rfl M_t N_t B_t .nil pass0 (pa_cons (pV 0) (pa_cons pe_int pa_nil))) pa_nil)) (pg_name (i := 10) sc_mkletters.nd rfl (Or.inl rfl)) (pss_one (ps_if (ptC oGt (pe_callB call_len_seq rfl T.len PySem.boot_len (pa_cons (pV 8) pa_nil)) pe_int (nomark _)) (pss_cons (ps_set (i := 11) sc_mkletters.nd rfl (Or.inl rfl) (pe_ix iIx (pV 8) (pe_call G_t hr rfl M_t N_t B_t .nil pass0 (pa_cons (pV 0) (pa_cons (pe_callB call_len_seq rfl T.len PySem.boot_len (pa_cons (pV 8) pa_nil)) pa_nil))) (fun _ _ => rfl))) (pss_cons (ps_set (i := 12) sc_mkletters.nd rfl (Or.inl rfl) (pe_ix iIx (pV 8) (pe_call G_t hr rfl M_t N_t B_t .nil pass0 (pa_cons (pV 0) (pa_cons (pe_callB call_len_seq rfl T.len PySem.boot_len (pa_cons (pV 8) pa_nil)) pa_nil))) (fun _ _ => rfl))) (pss_cons (ps_set (i := 13) sc_mkletters.nd rfl (Or.inl rfl) (pe_op oSub (pe_dget (hu_of hr) (pV 2) (pV 12) (fun _ _ => rfl)) (pe_dget (hu_of hr) (pV 2) (pV 11) (fun _ _ => rfl)))) (pss_cons (ps_set (i := 14) sc_mkletters.nd rfl (Or.inl rfl) (pe_call G_t hr rfl M_t N_t B_t .nil pass0 (pa_cons (pV 0) (pa_cons pe_int pa_nil)))) (pss_one (ps_if (ptAnd (ptC oNeS (pe_dget (hu_of hr) (pV 3) (pV 11) (fun _ _ => rfl)) (pe_dget (hu_of hr) (pV 3) (pV 12) (fun _ _ => rfl)) (nomark _)) (pw_and1 (ptC oGt (pV 13) pe_int (nomark _)))) (pss_cons (ps_set (i := 15) sc_mkletters.nd rfl (Or.inl rfl) (pe_ix iIx (pe_lst (pa_cons pe_non (pa_cons (pV 13) (pa_cons (pe_op oAdd (pV 13) (pV 14)) pa_nil)))) (pe_call G_t hr rfl M_t N_t B_t .nil pass0 (pa_cons (pV 0) (pa_cons pe_int pa_nil))) (fun _ _ => rfl))) (pss_one (ps_dput (hu_of hr) (pV 9) (pe_tup (pa_cons (pV 11) (pa_cons (pV 12) pa_nil))) (pe_tup (pa_cons (pV 11) (pa_cons (pV 12) (pa_cons (pe_callB (call_max2 rfl) rfl T.max PyProof.Rows.boot_max (pa_cons pe_int (pa_cons (pe_op oSub (pV 13) (pV 14)) pa_nil))) (pa_cons (pV 15) pa_nil))))) rfl))) pss_nil)))))) pss_nil))) (pss_one (ps_ret (pe_callTy call_tuple_of rfl T.tuple PyProof.Rows.boot_tuple (pa_cons (pe_comp (scX := defScope sMkLetters) (own := ["_law_pair"]) (cap := ["_law_found"]) (ix := [9]) rfl rfl ⟨rfl,by decide +kernel,by decide +kernel,by decide +kernel,rfl,by decide +kernel⟩ (pi_list (pe_callB (call_sortedT rfl) rfl T.sorted PyProof.Rows.boot_sorted (pa_cons (pV 9) pa_nil))) (fun b => (pg_name (i := 0) (show (["_law_pair","_law_found"]:List Str).Nodup by decide +kernel) rfl (Or.inl rfl))) (fun b => pif_nil) (fun b => (pe_dget (hu_of hr) (pV 1) (pV 0) (fun _ _ => rfl)))) pa_nil))))))))),?_⟩
   refine fun O hO => ?_
   have s0 : Same H (upd H O (.dK [])) := (Same.refl H).upd hO
   have bigP : (pairsOf hs).length <= 24 := by
     have z := few
     rw [<- pairsOf_fst,List.length_map] at z
     exact z
   have ndP : ((pairsOf hs).map Prod.fst).Nodup := by rw [pairsOf_fst]; exact nd
   have putOk : ∀ (A : List (Str × Str)) (x : Str × Str) (B : List (Str × Str)) (kv : List (Key × V)),pairsOf hs = A ++ x :: B -> OwnsL kv A -> kv.length <= A.length -> OwnsL (putK kv (.inr x.1) (.str x.2)) (A ++ [x]) /\ (putK kv (.inr x.1) (.str x.2)).length <= (A ++ [x]).length /\ kv.length < sizeLine := fun A x B kv e ow kl => by
     have l1 := bigP
     rw [e,List.length_append,List.length_cons] at l1
     refine ⟨OwnsL.put ow fun y hy z => ?_,?_,by omega⟩
     . rw [e,List.map_append,List.map_cons] at ndP
       exact (List.nodup_append.mp ndP).2.2 y.1 (List.mem_map_of_mem hy) x.1 List.mem_cons_self z
     . have z := length_putK kv (.inr x.1) (V.str x.2)
       rw [List.length_append]
       exact Nat.le_trans z (Nat.add_le_add_right kl 1)
   refine ⟨lh,rfl,⟨_,SqL.of (s0 _ _ hlh)⟩,for_list (xs := vh) (PvC p lh dh O hs H) ⟨[],none,none,none,none,rfl,upd_same,fun x hx => by simp [pairsOf] at hx,Nat.zero_le _,s0⟩ (fun i σ H' _ hz20 => by obtain ⟨_,_,_,_,_,_,_,_,_,s⟩ := hz20; exact SqL.of (s _ _ hlh)) (fun i x σ H' hx hz21 => ?_) (fun σ H1 hz22 => ?_)⟩
   . obtain ⟨kv,o4,o5,o6,o7,eσ,eO,ow,kl,s⟩ := hz21
     subst eσ
     obtain ⟨hh,hhi,ha⟩ := paired_getL ph hx
     have gd := gh hh (List.mem_of_getElem? hhi)
     obtain ⟨a,b,ez30,ga,c,vr,ez31,gc,pr⟩ := ha
     subst ez30
     subst ez31
     refine ixTup (SqT.of (s _ _ ga)) (i := 4) (v := .ref c) (by rfl) ?_
     have e0 : pairsOf hs = pairsOf (hs.take i) ++ (pairsH hh ++ pairsOf (hs.drop (i + 1))) := by
       unfold pairsOf
       have e1 : hs = hs.take i ++ (hh :: hs.drop (i + 1)) := by
         obtain ⟨li,fi⟩ := List.getElem?_eq_some_iff.mp hhi
         rw [<- fi,List.getElem_cons_drop,List.take_append_drop]
       conv => lhs; rw [e1]
       rw [List.flatMap_append,List.flatMap_cons]
     refine ⟨c,rfl,⟨_,SqT.of (s _ _ gc)⟩,for_tup (xs := vr) (PvD p lh dh O a hs hh i H) ⟨kv,o5,o6,o7,rfl,eO,by simpa using ow,by simpa using kl,s⟩ (fun j σ H' _ hz23 => by obtain ⟨_,_,_,_,_,_,_,_,s⟩ := hz23; exact SqT.of (s _ _ gc)) (fun j y σ H' hy hz24 => ?_) (fun σ H' hz25 => ?_)⟩
     . obtain ⟨kv,o5,o6,o7,eσ,eO,ow,kl,s⟩ := hz24
       subst eσ
       obtain ⟨r,hr',c2,ws,ez32,g2,pr2⟩ := paired_getL pr hy
       subst ez32
       have e1 : pairsH hh = (hh.runs.take j).flatMap (pairsR hh.name) ++ (pairsR hh.name r ++ (hh.runs.drop (j + 1)).flatMap (pairsR hh.name)) := by
         rw [pairsH_flat]
         have e1 : hh.runs = hh.runs.take j ++ (r :: hh.runs.drop (j + 1)) := by
           obtain ⟨li,fi⟩ := List.getElem?_eq_some_iff.mp hr'
           rw [<- fi,List.getElem_cons_drop,List.take_append_drop]
         conv => lhs; rw [e1]
         rw [List.flatMap_append,List.flatMap_cons]
       refine ⟨c2,rfl,⟨_,SqT.of (s _ _ g2)⟩,for_tup (xs := ws) (PvE p lh dh O a c2 hs hh i j r H) ⟨kv,o6,o7,rfl,eO,by simpa using ow,by simpa using kl,s⟩ (fun t σ H' _ hz26 => by obtain ⟨_,_,_,_,_,_,_,s⟩ := hz26; exact SqT.of (s _ _ g2)) (fun t z σ H' hz hz27 => ?_) (fun σ H' hz28 => ?_)⟩
       . obtain ⟨kv,o6,o7,eσ,eO,ow,kl,s⟩ := hz27
         subst eσ
         obtain ⟨rr,hrr,ra1,ez33,ra2⟩ := paired_getL pr2 hz
         subst ez33
         have hp' : (pairsR hh.name r)[t]? = some (rr.1,hh.name) := by unfold pairsR; rw [List.getElem?_map,hrr]; rfl
         refine ⟨ra1,_,rfl,SqT.of (s _ _ ra2),rfl,_,_,rfl,_,_,rfl,rfl,?_⟩
         refine ixTup (SqT.of (s _ _ ga)) (i := 0) (v := .str hh.name) (by rfl) ?_
         have e2 : pairsR hh.name r = (pairsR hh.name r).take t ++ ((rr.1,hh.name) :: (pairsR hh.name r).drop (t + 1)) := by
           obtain ⟨li,fi⟩ := List.getElem?_eq_some_iff.mp hp'
           rw [<- fi,List.getElem_cons_drop,List.take_append_drop]
         obtain ⟨w1,w2,w3⟩ := putOk (pairsOf (hs.take i) ++ (hh.runs.take j).flatMap (pairsR hh.name) ++ (pairsR hh.name r).take t) (rr.1,hh.name) ((pairsR hh.name r).drop (t + 1) ++ ((hh.runs.drop (j + 1)).flatMap (pairsR hh.name) ++ pairsOf (hs.drop (i + 1)))) kv (by
           rw [e0,e1]
           conv => lhs; rw [e2]
           simp only [List.append_assoc,List.cons_append]) ow kl
         refine ⟨O,_,rfl,DPut.k (k := Sum.inr rr.1) eO w3,?_⟩
         refine ⟨_,_,_,rfl,upd_same,?_,?_,fun b' o' e' => by rw [upd_ne (ne_of_none e' hO)]; exact s _ _ e'⟩
         . rw [List.take_add_one,hp',<- List.append_assoc]; exact w1
         . rw [List.take_add_one,hp',<- List.append_assoc]; exact w2
       . obtain ⟨kv,o6,o7,eσ,eO,ow,kl,s⟩ := hz28
         subst eσ
         have l2 := pr2.length
         have e2 : (pairsR hh.name r).take ws.length = pairsR hh.name r := List.take_of_length_le (by unfold pairsR; rw [List.length_map]; omega)
         rw [e2] at ow kl
         refine ⟨kv,_,_,_,rfl,eO,?_,?_,s⟩
         . rw [List.take_add_one,hr',List.flatMap_append]; simpa using ow
         . rw [List.take_add_one,hr',List.flatMap_append]; simpa using kl
     . obtain ⟨kv,o5,o6,o7,eσ,eO,ow,kl,s⟩ := hz25
       subst eσ
       rw [pr.length,List.take_length,<- pairsH_flat] at ow kl
       have e2 : pairsOf (hs.take (i + 1)) = pairsOf (hs.take i) ++ pairsH hh := by
         unfold pairsOf
         rw [List.take_add_one,hhi,List.flatMap_append]
         simp
       exact ⟨kv,_,_,_,_,rfl,eO,by rw [e2]; exact ow,by rw [e2]; exact kl,s⟩
   . obtain ⟨kvo,o4,o5,o6,o7,eσ,eO,ow,kl,s1⟩ := hz22
     subst eσ
     rw [ph.length,List.take_length] at ow kl
     -- rows_here = sorted(hidden)
     refine ⟨dh,kvs,namesOf hs,rfl,s1 _ _ hdh,keys,by omega,fun l8 ss hl8 pm so => ?_⟩
     have s2 : Same H1 (upd H1 l8 (.lst (ss.map V.str))) := (Same.refl H1).upd hl8
     generalize eH2 : upd H1 l8 (.lst (ss.map V.str)) = H2 at s2
     have h8 : H2 l8 = some (.lst (ss.map V.str)) := by rw [<- eH2]; exact upd_same
     have sH : Same H H2 := s1.trans s2
     have hp2 : PackAt H2 p := by obtain ⟨n,e,n0⟩ := hp; exact ⟨n,sH _ _ e,n0⟩
     refine fun F hF => ?_
     have nF : F ≠ p := fun z => by obtain ⟨n,e,_⟩ := hp2; rw [<- z,hF] at e; cases e
     have n8 : l8 ≠ p := fun z => by
       obtain ⟨n,e,_⟩ := hp2
       rw [<- z,h8] at e
       cases ss with
       | nil => cases e
       | cons s ss => cases e
     have nO : O ≠ p := fun z => by obtain ⟨n,e,_⟩ := hp2; rw [<- z,s2 _ _ eO] at e; cases e
     have lss : ss.length = (namesOf hs).length := pm.length_eq
     have memS : ∀ x ∈ ss,x ∈ namesOf hs := fun x hx => pm.mem_iff.mp hx
     refine ⟨p,7,rfl,hp2.new hF,by decide,by decide,fun n7 H3 n7a n7b hp3 s3 => ?_⟩
     have SB3 : SameB p H2 H3 := ((SameB.of (Same.refl H2)).new hF).trans s3
     refine ⟨n7,rfl,by omega,by omega,for_range (lo := 0) (n := n7.toNat) (PvF p lh dh O l8 F hs H2) ⟨[],_,_,_,_,_,_,_,_,_,_,rfl,hp3,SB3,s3 F _ nF upd_same,Nat.zero_le _,fun x hx => by simp at hx⟩ (fun i σ H' hi hz29 => ?_) (fun σ H' hz30 => ?_)⟩
     . obtain ⟨kf,o4,o5,o6,o7,o10,o11,o12,o13,o14,o15,eσ,pk,sb,eF,kl,fo⟩ := hz29
       subst eσ
       refine ⟨l8,_,rfl,.inl (SqL.of (sb l8 _ n8 h8)),?_⟩
       refine ite2 (fun c1 => ?_) (fun c1 => ⟨kf,_,_,_,_,_,_,_,_,_,_,rfl,pk,sb,eF,Nat.le_succ_of_le kl,fo⟩)
       have many : 1 < ss.length := by
         have z : (1 : Int) < ((ss.map V.str).length : Int) := of_decide_eq_true c1
         rw [List.length_map] at z; omega
       have pick : ∀ d : Int,0 <= d -> d < ((ss.map V.str).length : Int) -> ∃ x,x ∈ ss /\ atI (ss.map V.str) d = some (.str x) := fun d d0 d1 => by
         obtain ⟨n,rfl⟩ := Int.eq_ofNat_of_zero_le d0
         rw [List.length_map] at d1
         have hn : n < ss.length := by omega
         exact ⟨ss[n],List.getElem_mem hn,atI_nat (by rw [List.getElem?_map,List.getElem?_eq_getElem hn]; rfl)⟩
       have lenI : (0 : Int) < ((ss.map V.str).length : Int) /\ ((ss.map V.str).length : Int) < 1073741824 := by rw [List.length_map]; omega
       refine asg_i fun W1 hW1 => ?_
       refine ⟨l8,_,rfl,.inl (SqL.of (sb l8 _ n8 h8)),?_⟩
       refine ⟨p,_,rfl,pk,lenI.1,lenI.2,fun d1 Ha d1a d1b pka sa => ?_⟩
       have sba := sb.trans sa
       obtain ⟨one,m1,e1⟩ := pick d1 d1a d1b
       refine ixAt (sba l8 _ n8 h8) e1 ?_
       show W1 _ _
       subst hW1
       refine asg_i fun W2 hW2 => ?_
       refine ⟨l8,_,rfl,.inl (SqL.of (sba l8 _ n8 h8)),?_⟩
       refine ⟨p,_,rfl,pka,lenI.1,lenI.2,fun d2 Hb d2a d2b pkb sb2 => ?_⟩
       have sbb := sba.trans sb2
       obtain ⟨other,m2,e2⟩ := pick d2 d2a d2b
       refine ixAt (sbb l8 _ n8 h8) e2 ?_
       show W2 _ _
       subst hW2
       refine asg_i fun W3 hW3 => ?_
       obtain ⟨g2,eg2⟩ := vals other (memS _ m2)
       obtain ⟨g1,eg1⟩ := vals one (memS _ m1)
       have hdb : Hb dh = some (.dK kvs) := sbb dh _ ndh (sH _ _ hdh)
       refine ⟨dh,_,rfl,eg2 ▸ DGet.k (k := Sum.inr other) hdb,?_⟩
       refine ⟨dh,_,rfl,eg1 ▸ DGet.k (k := Sum.inr one) hdb,?_⟩
       show W3 _ _
       subst hW3
       refine asg_i fun W4 hW4 => ?_
       refine ⟨p,9,rfl,pkb,by decide,by decide,fun sk Hc sk0 sk1 pkc sc => ?_⟩
       show W4 _ _
       subst hW4
       have sbc := sbb.trans sc
       have eFc : Hc F = some (.dT kf) := (sa.trans (sb2.trans sc)) F _ nF eF
       have foc : FoundOk hs Hc kf := fun kv hkv => by
         obtain ⟨l,w1,w2,w3⟩ := fo kv hkv
         exact ⟨l,w1,w2.ts (SameB.tups pk (sa.trans (sb2.trans sc))),w3⟩
       obtain ⟨hh1,q1,q2,q3⟩ := owner_of ow (memS _ m1)
       obtain ⟨hh2,r1,r2,r3⟩ := owner_of ow (memS _ m2)
       have hOc : Hc O = some (.dK kvo) := sbc O _ nO (s2 _ _ eO)
       refine ⟨O,_,rfl,q3 ▸ DGet.k (k := Sum.inr one) hOc,?_⟩
       refine ⟨O,_,rfl,r3 ▸ DGet.k (k := Sum.inr other) hOc,?_⟩
       have skip : ∀ (σ : St),(∃ o4 o5 o6 o7 o10 o11 o12 o13 o14 o15 : Option V,σ = [some (.ref p),some (.ref lh),some (.ref dh),some (.ref O),o4,o5,o6,o7,some (.ref l8),some (.ref F),o10,o11,o12,o13,o14,o15]) -> ∃ (kf : List (List Key × V)) (o4 o5 o6 o7 o10 o11 o12 o13 o14 o15 : Option V),σ = [some (.ref p),some (.ref lh),some (.ref dh),some (.ref O),o4,o5,o6,o7,some (.ref l8),some (.ref F),o10,o11,o12,o13,o14,o15] /\ PackAt Hc p /\ SameB p H2 Hc /\ Hc F = some (.dT kf) /\ kf.length <= i + 1 /\ FoundOk hs Hc kf := fun σ ⟨a4,a5,a6,a7,a10,a11,a12,a13,a14,a15,e⟩ => ⟨kf,a4,a5,a6,a7,a10,a11,a12,a13,a14,a15,e,pkc,sbc,eFc,Nat.le_succ_of_le kl,foc⟩
       refine ite2 (fun c2 => ?_) (fun c2 => skip _ ⟨_,_,_,_,_,_,_,_,_,_,rfl⟩)
       have hne : hh1.name ≠ hh2.name := fun z => by
         rw [decide_eq_true z] at c2
         cases c2
       refine ite2 (fun c3 => ?_) (fun c3 => skip _ ⟨_,_,_,_,_,_,_,_,_,_,rfl⟩)
       have gap0 : 0 < g2 - g1 := of_decide_eq_true c3
       refine asg_i fun W5 hW5 => ?_
       refine ⟨by show 3 <= sizeLine; omega,fun l3 hl3 => ?_⟩
       have nl3 : l3 ≠ p := fun z => by obtain ⟨n,e,_⟩ := pkc; rw [<- z,hl3] at e; cases e
       refine ⟨p,3,rfl,pkc.new hl3,by decide,by decide,fun d3 Hd d3a d3b pkd sd => ?_⟩
       have scd : SameB p Hc Hd := ((SameB.of (Same.refl Hc)).new hl3).trans sd
       obtain ⟨mo,emo,hmo⟩ : ∃ mo : Option Int,atI [V.non,.int (g2 - g1),.int (g2 - g1 + sk)] d3 = some (mostV mo) /\ ∀ m,mo = some m -> g2 - g1 <= m := by
         obtain ⟨n,rfl⟩ := Int.eq_ofNat_of_zero_le d3a
         match n,d3b with
         | 0,_ => exact ⟨none,rfl,fun m e => nomatch e⟩
         | 1,_ => exact ⟨some (g2 - g1),rfl,fun m e => by cases e; exact Int.le_refl _⟩
         | 2,_ => exact ⟨some (g2 - g1 + sk),rfl,fun m e => by cases e; omega⟩
         | n + 3,h => exact absurd h (by omega)
       refine ixAt (sd l3 _ nl3 upd_same) emo ?_
       show W5 _ _
       subst hW5
       refine ⟨1,g2 - g1 - sk,rfl,?_⟩
       obtain ⟨lst,elst,hl1,hl2⟩ : ∃ lst : Int,lst = (if g2 - g1 - sk > 1 then g2 - g1 - sk else 1) /\ 1 <= lst /\ lst <= g2 - g1 := ⟨_,rfl,by split <;> omega,by split <;> omega⟩
       rw [<- elst]
       refine ⟨by show 4 <= sizeLine; omega,fun t1 ht1 => ?_⟩
       refine ⟨by show 2 <= sizeLine; omega,fun t2 ht2 => ?_⟩
       have eFd : Hd F = some (.dT kf) := scd F _ nF eFc
       have eF1 : upd Hd t1 (.tup [.str one,.str other,.int lst,mostV mo]) F = some (.dT kf) := (upd_ne (ne_of_none eFd ht1)).trans eFd
       have eF2 : upd (upd Hd t1 (.tup [.str one,.str other,.int lst,mostV mo])) t2 (.tup [.str one,.str other]) F = some (.dT kf) := (upd_ne (ne_of_none eF1 ht2)).trans eF1
       refine ⟨F,_,rfl,DPut.t (k := kP (one,other)) eF2 upd_same (by omega),?_⟩
       have tt : Tups Hc (upd (upd (upd Hd t1 (.tup [.str one,.str other,.int lst,mostV mo])) t2 (.tup [.str one,.str other])) F (.dT (putK kf (kP (one,other)) (.ref t1)))) := (((SameB.tups pkc scd).new ht1).new ht2).put eF2 (fun _ z => nomatch z)
       have et1 : upd (upd (upd Hd t1 (.tup [.str one,.str other,.int lst,mostV mo])) t2 (.tup [.str one,.str other])) F (.dT (putK kf (kP (one,other)) (.ref t1))) t1 = some (.tup [.str one,.str other,.int lst,mostV mo]) := by
         rw [upd_ne (ne_of_none eFd ht1).symm,upd_ne (ne_of_none upd_same ht2)]; exact upd_same
       refine ⟨_,_,_,_,_,_,_,_,_,_,_,rfl,((pkd.new ht1).new ht2).put nF,fun b o hb e => ?_,upd_same,?_,fun kv hkv => ?_⟩
       . have z1 := (sbc.trans scd) b o hb e
         rw [upd_ne (ne_of_none e hF)]
         exact (((SameB.of (Same.refl Hd)).new ht1).new ht2) b o hb z1
       . exact Nat.le_trans (length_putK kf (kP (one,other)) (.ref t1)) (Nat.add_le_add_right kl 1)
       . rcases mem_putK hkv with z | z
         . subst z
           exact ⟨((one,other),lst,mo),rfl,⟨t1,rfl,et1⟩,names_good gh (memS _ m1),names_good gh (memS _ m2),hl1,fun m e => by have := hmo m e; show lst <= m; omega,hh1,q1,hh2,r1,q2,r2,hne⟩
         . obtain ⟨l,w1,w2,w3⟩ := foc kv z
           exact ⟨l,w1,w2.ts tt,w3⟩
     . obtain ⟨kf,o4,o5,o6,o7,o10,o11,o12,o13,o14,o15,eσ,pk,sb,eF,kl,fo⟩ := hz30
       subst eσ
       obtain ⟨ks,ek,lk⟩ := fo.keys
       refine ⟨F,kf,ks,rfl,eF,ek,by omega,fun l9 as ks' hl9 pm' pw la ha => ?_⟩
       have lks : ks'.length = ks.length := pm'.length_eq
       have s9 : Same H' (upd H' l9 (.lst (as.map V.ref))) := (Same.refl H').upd hl9
       generalize eH9 : upd H' l9 (.lst (as.map V.ref)) = H9 at s9
       have h9 : H9 l9 = some (.lst (as.map V.ref)) := by rw [<- eH9]; exact upd_same
       refine ⟨l9,rfl,⟨_,SqL.of h9⟩,fun D hD => comp_list (xs := as.map V.ref) (fun i H'' => ∃ (zs : List V) (ls : List Letter),Grow H9 H'' D zs /\ Paired (LetterAt H9) zs ls /\ ls.map Prod.fst = ks'.take i /\ ∀ l ∈ ls,GoodLetter hs l) ⟨[],[],Grow.start hD,.nil,rfl,fun l hl => by simp at hl⟩ (fun i H'' _ hz31 => by obtain ⟨_,_,G,_⟩ := hz31; exact SqL.of (G.same _ _ h9)) (fun H'' hz32 => ?_) (fun i x H'' hx hi hz33 b => ?_)⟩
       . obtain ⟨zs,ls,G,pz,el,gl⟩ := hz32
         have lx : ks'.take (as.map V.ref).length = ks' := List.take_of_length_le (by rw [List.length_map]; omega)
         rw [lx] at el
         have l1 := congrArg List.length el
         rw [List.length_map] at l1
         have l2 := pz.length
         refine ⟨D,zs,rfl,.inl ⟨SqL.of G.at',fun t ht => ?_⟩⟩
         refine q (.ref t) ls _ ⟨t,zs,rfl,upd_same,paired_mono (fun _ _ z => z.ts (G.same.tups.new ht)) pz⟩ ⟨by omega,gl,by rw [el]; exact pw⟩ ?_ ?_
         . obtain ⟨n,e,n0⟩ := pk
           exact (show PackAt H'' p from ⟨n,G.same _ _ (s9 _ _ e),n0⟩).new ht
         . exact (((SameB.of sH).trans (sb.trans (SameB.of (s9.trans G.same)))).new ht)
       . obtain ⟨zs,ls,G,pz,el,gl⟩ := hz33
         rw [List.getElem?_map] at hx
         obtain ⟨a,ea,rfl⟩ : ∃ a,as[i]? = some a /\ x = V.ref a := by
           cases e : as[i]? with
           | none => rw [e] at hx; cases hx
           | some a => rw [e] at hx; exact ⟨a,rfl,(Option.some.inj hx).symm⟩
         have li : i < ks'.length := by rw [List.length_map] at hi; omega
         have eki : ks'[i]? = some ks'[i] := List.getElem?_eq_getElem li
         have hka : H' a = some (.tup ((kP ks'[i]).map kV)) := ha i a _ ea eki
         have mk : kP ks'[i] ∈ kf.map (·.1) := by
           rw [ek]
           exact List.mem_map_of_mem (pm'.mem_iff.mp (List.getElem_mem li))
         obtain ⟨v,ev,mv⟩ := valV_mem mk
         obtain ⟨l,w1,w2,w3⟩ := fo _ mv
         have el1 : l.1 = ks'[i] := (kP_inj w1).symm
         have sg : Same H' H'' := s9.trans G.same
         refine ⟨F,v,rfl,ev ▸ DGet.t (k := kP ks'[i]) (sg _ _ eF) (sg _ _ hka),?_⟩
         have l2 := pz.length
         have l1 := congrArg List.length el
         rw [List.length_map,List.length_take] at l1
         refine ⟨zs,G.at',by omega,nx hi ⟨zs ++ [v],ls ++ [l],G.put hD v,paired_app pz (.cons (w2.ts s9.tups) .nil),?_,fun l' hl' => ?_⟩⟩
         . rw [List.map_append,el,List.take_add_one,eki]
           show _ ++ [l.1] = _ ++ [ks'[i]]
           rw [el1]
         . rcases List.mem_append.mp hl' with z | z
           . exact gl l' z
           . rw [List.mem_singleton.mp z]; exact w3
end
end K04
namespace K04
open PySem L2 K02
def spMkLedger (K : PySem.W.Frag) : Sp := fun vs H Q _ => ∃ (a : Addr) (ns : List Int) (k : Int),vs = [.ref a,.int k] /\ SqL K H a (ns.map V.int) /\ (∀ n ∈ ns,Bits n) /\ ns.length <= 63 /\ 0 <= k /\ k <= 100 /\ ∀ (x : V) (hs : List House) (ls : List Letter) (H' : Hp),LedgerAt H' x hs ls -> GoodHouses hs -> GoodLetters hs ls -> (∀ z ∈ hs.map House.name,z ∈ nmL) -> (∀ h ∈ hs,h.high - h.low <= 300) -> Same H H' -> Q x H'
def PvG (a hd ln lh dh : Addr) (k d4 : Int) (ss : List Str) (H3 : Hp) : Nat -> St -> Hp -> Prop := fun i σ H' => ∃ (vh : List V) (hs : List House) (kvs : List (Key × V)) (m : Nat) (o8 o9 o10 o11 : Option V),σ = [some (.ref a),some (.int k),some (.ref hd),some (.ref ln),some (.int (1 + d4)),some (.ref lh),some (.ref dh),some (.int (10 - (m : Int))),o8,o9,o10,o11] /\ H' lh = some (.lst vh) /\ Paired (HouseAt H') vh hs /\ H' dh = some (.dK kvs) /\ kvs.map (·.1) = (namesOf hs).map Sum.inr /\ (∀ n ∈ namesOf hs,∃ i : Int,valV kvs (.inr n) = some (.int i)) /\ namesOf hs = ss.take m /\ m <= 10 /\ hs.length = i /\ hs.map House.name = nmL.take i /\ (∀ h ∈ hs,GoodW h) /\ Same H3 H'
section
variable {P : Program} {w : World} {K : PySem.W.Frag} {mg : Str -> Option Value} {base : Heap} {t8 : Tok}
theorem sc_mkledger : FnScope ["_law_script","_law_k","_law_head","_law_names_here","_law_amount","_law_houses","_law_hidden","_law_room","_law_j","_law_rest","_law_house_here","_law_more"] ["_law_script","_law_k"] (defScope sMkLedger) := ⟨rfl,rfl,rfl,by decide +kernel,rfl,by decide +kernel,by decide +kernel⟩
theorem ok_mkledger {f F_p F_z16 F_t F_z17 F_z18 : Addr} {fd D_p D_z16 D_t D_z17 D_z18 : FuncData} (F : Fun K "_law_ledger" "_law_ledger" sMkLedger f fd) (T : Txt mg t8)
   (G_p : FnOk P w K mg base CX0 2 F_p D_p ["_law_script","_law_k"] (spPack K)) (M_p : mg "_law_pack" = some (.ref F_p)) (N_p : PySem.W.keepIn K (.ref F_p) = true) (B_p : Binds K D_p ["_law_script","_law_k"] [])
   (G_z16 : FnOk P w K mg base CX0 2 F_z16 D_z16 ["_law_pack_here","_law_amount"] spNames) (M_z16 : mg "_law_names" = some (.ref F_z16)) (N_z16 : PySem.W.keepIn K (.ref F_z16) = true) (B_z16 : Binds K D_z16 ["_law_pack_here","_law_amount"] [])
   (G_t : FnOk P w K mg base CX0 2 F_t D_t ["_law_pack_here","_law_size"] spTake) (M_t : mg "_law_take" = some (.ref F_t)) (N_t : PySem.W.keepIn K (.ref F_t) = true) (B_t : Binds K D_t ["_law_pack_here","_law_size"] [])
   (G_z17 : FnOk P w K mg base CX0 2 F_z17 D_z17 ["_law_pack_here","_law_name","_law_names_here","_law_room"] spMkHouse) (M_z17 : mg "_law_house" = some (.ref F_z17)) (N_z17 : PySem.W.keepIn K (.ref F_z17) = true) (B_z17 : Binds K D_z17 ["_law_pack_here","_law_name","_law_names_here","_law_room"] [])
   (G_z18 : FnOk P w K mg base CX0 2 F_z18 D_z18 ["_law_pack_here","_law_houses","_law_hidden"] spMkLetters) (M_z18 : mg "_law_letters" = some (.ref F_z18)) (N_z18 : PySem.W.keepIn K (.ref F_z18) = true) (B_z18 : Binds K D_z18 ["_law_pack_here","_law_houses","_law_hidden"] []) : FnOk P w K mg base CX0 3 f fd ["_law_script","_law_k"] (spMkLedger K) := by
 refine F.ok sc_mkledger (fun vs H Q E h => ?_) (fun cdv A outer s H vs Q E hr h => ?_)
 . obtain ⟨a,ns,k,rfl,_⟩ := h
   rfl
 . obtain ⟨a,ns,k,rfl,ha,hb,hl,k0,k1,q⟩ := h
   have sl0 : sizeLine = 16777216 := sizeLine_eq
   refine ⟨_,(pss_cons (ps_set (i := 2) sc_mkledger.nd rfl (Or.inl rfl) (pe_call G_p hr rfl M_p N_p B_p .nil pass0 (pa_cons (pV 0) (pa_cons (pV 1) pa_nil)))) (pss_cons (ps_set (i := 3) sc_mkledger.nd rfl (Or.inl rfl) (pe_call G_z16 hr rfl M_z16 N_z16 B_z16 .nil pass0 (pa_cons (pV 2) (pa_cons pe_int pa_nil)))) (pss_cons (ps_set (i := 4) sc_mkledger.nd rfl (Or.inl rfl) (pe_op oAdd pe_int (pe_call G_t hr rfl M_t N_t B_t .nil pass0 (pa_cons (pV 2) (pa_cons pe_int pa_nil))))) (pss_cons (ps_set (i := 5) sc_mkledger.nd rfl (Or.inl rfl) (pe_lst pa_nil)) (pss_cons (ps_set (i := 6) sc_mkledger.nd rfl (Or.inl rfl) pe_dnewK) (pss_cons (ps_set (i := 7) sc_mkledger.nd rfl (Or.inl rfl) pe_int) (pss_cons (ps_for PassesOwn.never rfl (pi_range1 rfl T.range (pa_cons (pV 4) pa_nil)) (pg_name (i := 8) sc_mkledger.nd rfl (Or.inl rfl)) (pss_cons (ps_set (i := 9) sc_mkledger.nd rfl (Or.inl rfl) (pe_slice sl_list (pV 3) (poI (pe_callB call_lenD rfl T.len PySem.boot_len (pa_cons (pV 6) pa_nil))) (poI pe_int))) (pss_cons (ps_asg (pe_call G_z17 hr rfl M_z17 N_z17 B_z17 .nil pass0 (pa_cons (pe_call G_p hr rfl M_p N_p B_p .nil pass0 (pa_cons (pV 0) (pa_cons (pe_op oAdd (pe_op oAdd (pV 1) pe_int) (pV 8)) pa_nil))) (pa_cons (pe_ix iIx (pe_lst (pa_cons pe_str (pa_cons pe_str (pa_cons pe_str (pa_cons pe_str pa_nil))))) (pV 8) (fun _ _ => rfl)) (pa_cons (pV 9) (pa_cons (pV 7) pa_nil))))) (pg_tup rfl (pgs_cons (pg_name (i := 10) sc_mkledger.nd rfl (Or.inl rfl)) (pgs_cons (pg_name (i := 11) sc_mkledger.nd rfl (Or.inl rfl)) pgs_nil)))) (pss_cons (ps_expr (pe_bm PySem.F.plainAttrs_list PySem.F.slot_list_append PySem.F.type_list_append mt_append (pV 5) (pa_cons (pV 10) pa_nil))) (pss_cons (ps_expr (pe_bm PySem.F.plainAttrs_dict PySem.F.slot_dict_update PySem.F.type_dict_update mt_update (pV 6) (pa_cons (pV 11) pa_nil))) (pss_one (ps_set (i := 7) sc_mkledger.nd rfl (Or.inl rfl) (pe_op oSub pe_int (pe_callB call_lenD rfl T.len PySem.boot_len (pa_cons (pV 6) pa_nil)))))))))) (pss_one (ps_ret (pe_tup (pa_cons (pe_callTy call_tuple_of rfl T.tuple PyProof.Rows.boot_tuple (pa_cons (pV 5) pa_nil)) (pa_cons (pe_call G_z18 hr rfl M_z18 N_z18 B_z18 .nil pass0 (pa_cons (pe_call G_p hr rfl M_p N_p B_p .nil pass0 (pa_cons (pV 0) (pa_cons (pe_op oAdd (pV 1) pe_int) pa_nil))) (pa_cons (pV 5) (pa_cons (pV 6) pa_nil)))) pa_nil)))))))))))),?_⟩
   refine asg_i fun U1 hU1 => ?_
   refine ⟨a,ns,k,rfl,ha,hb,hl,k0,by omega,fun hd H1 fhd pk1 s1 => ?_⟩
   show U1 _ _
   subst hU1
   refine asg_i fun U2 hU2 => ?_
   refine ⟨hd,rfl,pk1,fun ln ss H2 fln eln l12 nd gs nq pk2 sb2 => ?_⟩
   show U2 _ _
   subst hU2
   have S2 : Same H H2 := same_new s1 fhd sb2
   refine asg_i fun U3 hU3 => ?_
   refine ⟨hd,4,rfl,pk2,by decide,by decide,fun d4 H3 d4a d4b pk3 sb3 => ?_⟩
   show U3 _ _
   subst hU3
   have S3 : Same H H3 := same_new S2 fhd sb3
   have nlnh : ln ≠ hd := fun z => by obtain ⟨n,e,_⟩ := pk1; rw [<- z,fln] at e; cases e
   have eln3 : H3 ln = some (.lst (ss.map V.str)) := sb3 ln _ nlnh eln
   refine asg_i fun U4 hU4 => ?_
   refine ⟨Nat.zero_le _,fun lh flh => ?_⟩
   show U4 _ _
   subst hU4
   refine asg_i fun U5 hU5 => ?_
   refine fun dh fdh => ?_
   show U5 _ _
   subst hU5
   have S4 : Same H3 (upd (upd H3 lh (.lst [])) dh (.dK [])) := ((Same.refl H3).upd flh).upd fdh
   have nld : lh ≠ dh := ne_of_none upd_same fdh
   have eln4 := S4 _ _ eln3
   have e12 : ss.length = 12 := l12
   refine ⟨1 + d4,rfl,by omega,by omega,for_range (lo := 0) (n := (1 + d4).toNat) (PvG a hd ln lh dh k d4 ss H3) ⟨[],[],[],0,none,none,none,none,rfl,(upd_ne nld).trans upd_same,.nil,upd_same,rfl,fun n hn => by simp [namesOf] at hn,rfl,by decide,rfl,rfl,fun h hh => by simp at hh,S4⟩ (fun i σ H' hi hz34 => ?_) (fun σ H' hz35 => ?_)⟩
   . obtain ⟨vh,hs,kvs,m,o8,o9,o10,o11,eσ,elh,ph,edh,keys,vals,nms,m10,lhs,hnm,gh,S⟩ := hz34
     subst eσ
     have i4 : i < 4 := by omega
     have lkv : kvs.length = m := by
       have z := congrArg List.length keys
       rw [List.length_map,List.length_map,nms,List.length_take] at z
       omega
     have SH : Same H H' := S3.trans S
     refine ⟨dh,kvs,rfl,edh,?_⟩
     refine ⟨ln,_,rfl,SqL.of (S _ _ eln3),fun lr flr => ?_⟩
     have ecut : cutV (ss.map V.str) (some (kvs.length : Int)) (some 10) = ((ss.take 10).drop m).map V.str := by
       unfold cutV
       rw [show (some 10 : Option Int) = some ((10 : Nat) : Int) from rfl,HT.sIx_nat,HT.sIx_nat,List.length_map,l12,lkv,Nat.min_eq_left (show m <= 12 by omega),Nat.min_eq_left (show 10 <= 12 by decide),<- List.map_drop,<- List.map_take,List.drop_take]
     rw [ecut]
     have s5 : Same H' (upd H' lr (.lst (((ss.take 10).drop m).map V.str))) := (Same.refl H').upd flr
     generalize eH5 : upd H' lr (.lst (((ss.take 10).drop m).map V.str)) = H5 at s5
     have elr : H5 lr = some (.lst (((ss.take 10).drop m).map V.str)) := by rw [<- eH5]; exact upd_same
     have SH5 : Same H H5 := SH.trans s5
     refine ⟨a,ns,k + 1 + (0 + (i : Int)),rfl,sql_same SH5 ha,hb,hl,by omega,by omega,fun p H6 fp pk6 s6 => ?_⟩
     refine ⟨by show 4 <= sizeLine; omega,fun l4 fl4 => ?_⟩
     obtain ⟨nm,enm⟩ : ∃ nm,nmL[i]? = some nm := ⟨nmL[i],List.getElem?_eq_getElem (show i < 4 from i4)⟩
     have eat : atI (nmL.map V.str) (0 + (i : Int)) = some (.str nm) := by
       rw [Int.zero_add]
       exact atI_nat (by rw [List.getElem?_map,enm]; rfl)
     refine ixAt (xs := nmL.map V.str) upd_same eat ?_
     have gnm : Good nm := nm_good nm (List.mem_of_getElem? enm)
     have s7 : Same H5 (upd H6 l4 (.lst (nmL.map V.str))) := s6.upd fl4
     have pk7 : PackAt (upd H6 l4 (.lst (nmL.map V.str))) p := pk6.new fl4
     have ssl : ((ss.take 10).drop m).length = 10 - m := by rw [List.length_drop,List.length_take]; omega
     have sub : ((ss.take 10).drop m).Sublist ss := (List.drop_sublist _ _).trans (List.take_sublist _ _)
     refine ⟨p,nm,lr,(ss.take 10).drop m,10 - (m : Int),rfl,pk7,gnm,s7 _ _ elr,by omega,sub.nodup nd,fun s hs' => gs s (sub.subset hs'),fun r d hv hh kv m' H8 fr fd er hat ghh ehn enames le rm ed keys2 vals2 pk8 sb8 => ?_⟩
     have fp5 : H5 p = none := fp
     have S8 : Same H5 H8 := same_new s7 fp5 sb8
     refine ⟨r,_,rfl,SqT.of er,rfl,_,_,rfl,_,_,rfl,rfl,?_⟩
     have elh8 : H8 lh = some (.lst vh) := S8 _ _ (s5 _ _ elh)
     have edh8 : H8 dh = some (.dK kvs) := S8 _ _ (s5 _ _ edh)
     refine ⟨.inl ⟨rfl,_,SqL.of elh8⟩,?_⟩
     have lv := ph.length
     refine ⟨lh,vh,_,rfl,rfl,elh8,by omega,?_⟩
     have ndd : dh ≠ d := fun z => by
       rw [<- z] at fd
       have w := (s7 _ _ (s5 _ _ edh))
       cases (fd.symm.trans w)
     have nlhdh : dh ≠ lh := fun z => by rw [z,elh8] at edh8; cases edh8
     have nlhd : d ≠ lh := fun z => by rw [z,elh8] at ed; cases ed
     have edh9 : upd H8 lh (.lst (vh ++ [hv])) dh = some (.dK kvs) := (upd_ne nlhdh).trans edh8
     have ed9 : upd H8 lh (.lst (vh ++ [hv])) d = some (.dK kv) := (upd_ne nlhd).trans ed
     have lkv2 : kv.length = m' := by
       have z := congrArg List.length keys2
       rw [List.length_map,List.length_map,List.length_take] at z
       omega
     refine ⟨.inr (.inr (.inl ⟨rfl,.inl ⟨_,edh9⟩⟩)),?_⟩
     refine ⟨dh,d,kvs,kv,rfl,rfl,ndd,edh9,ed9,by omega,?_⟩
     have mm : m + m' <= 10 := by omega
     have e10 : namesOf (hs ++ [hh]) = ss.take (m + m') := by
       have z : namesOf (hs ++ [hh]) = namesOf hs ++ namesH hh := by unfold namesOf; rw [List.flatMap_append]; simp
       rw [z,nms,enames,List.drop_take,List.take_take,List.take_add,Nat.min_eq_left (by omega)]
     have ndk : (ss.take (m + m')).Nodup := (List.take_sublist _ _).nodup nd
     have e10' : ss.take (m + m') = ss.take m ++ ((ss.take 10).drop m).take m' := by
       rw [<- e10]
       unfold namesOf
       rw [List.flatMap_append]
       have z : hs.flatMap namesH = ss.take m := nms
       rw [z,<- enames]; simp
     have inj : ∀ l : List Str,l.Nodup -> (l.map (Sum.inr : Str -> Key)).Nodup := fun l hl => by
       rw [List.nodup_iff_pairwise_ne,List.pairwise_map]
       exact (List.nodup_iff_pairwise_ne.mp hl).imp fun h z => h (Sum.inr.inj z)
     have ndk2 := inj _ ndk
     rw [e10',List.map_append] at ndk2
     obtain ⟨nda,ndb,ndc⟩ := List.nodup_append.mp ndk2
     have emk : mergeK kvs kv = kvs ++ kv := mergeK_app kv kvs (by rw [keys2]; exact ndb) (fun x hx z => by
       rw [keys2] at hx
       rw [keys,nms] at z
       exact ndc x z x hx rfl)
     rw [emk]
     have tt : Tups H8 (upd (upd H8 lh (.lst (vh ++ [hv]))) dh (.dK (kvs ++ kv))) := ((Tups.refl H8).put elh8 (fun _ z => nomatch z)).put edh9 (fun _ z => nomatch z)
     refine ⟨dh,_,rfl,upd_same,?_⟩
     refine ⟨vh ++ [hv],hs ++ [hh],kvs ++ kv,m + m',some (.int (0 + (i : Int))),some (.ref lr),some hv,some (.ref d),?_,(upd_ne (Ne.symm nlhdh)).trans upd_same,?_,upd_same,?_,?_,e10,mm,by rw [List.length_append,lhs]; rfl,?_,?_,?_⟩
     . have el : (10 - ((kvs ++ kv).length : Int)) = 10 - ((m + m' : Nat) : Int) := by rw [List.length_append,lkv,lkv2]
       show [_,_,_,_,_,_,_,some (V.int (10 - ((kvs ++ kv).length : Int))),_,_,_,_] = _
       rw [el]
     . refine paired_app (paired_mono (fun _ _ z => (z.ts s5.tups).ts (S8.tups.trans tt)) ph) (.cons (hat.ts tt) .nil)
     . rw [List.map_append,keys,keys2,e10,nms,e10',List.map_append]
     . intro n hn
       rw [e10,e10'] at hn
       rw [valV_app]
       rcases List.mem_append.mp hn with z | z
       . obtain ⟨v,ev⟩ := vals n (by rw [nms]; exact z)
         exact ⟨v,by rw [ev]; rfl⟩
       . obtain ⟨v,ev⟩ := vals2 n z
         refine ⟨v,?_⟩
         have no : valV kvs (.inr n) = none := valV_none (fun y => by
           rw [keys,nms] at y
           exact ndc (Sum.inr n) y (Sum.inr n) (List.mem_map_of_mem z) rfl)
         rw [no,ev]; rfl
     . rw [List.map_append,hnm,List.take_add_one,enm,<- ehn]; rfl
     . intro h hh'
       rcases List.mem_append.mp hh' with z | z
       . exact gh h z
       . rw [List.mem_singleton.mp z]; exact ghh
     . intro b o e
       have z := S8 _ _ (s5 _ _ (S _ _ e))
       have n1 : b ≠ lh := ne_of_none e flh
       have n2 : b ≠ dh := fun y => by
         rw [y] at e
         have := (upd_ne (o := .lst []) (Ne.symm nld)).trans e
         rw [fdh] at this; cases this
       rw [upd_ne n2,upd_ne n1]; exact z
   . obtain ⟨vh,hs,kvs,m,o8,o9,o10,o11,eσ,elh,ph,edh,keys,vals,nms,m10,lhs,hnm,gh,S⟩ := hz35
     subst eσ
     have SH : Same H H' := S3.trans S
     have lv := ph.length
     have ln' : hs.length <= 4 := by omega
     refine ⟨lh,vh,rfl,.inl ⟨SqL.of elh,fun t1 ft1 => ?_⟩⟩
     have s5 : Same H' (upd H' t1 (.tup vh)) := (Same.refl H').upd ft1
     generalize eH5 : upd H' t1 (.tup vh) = H5 at s5
     have et1 : H5 t1 = some (.tup vh) := by rw [<- eH5]; exact upd_same
     refine ⟨a,ns,k + 5,rfl,sql_same (SH.trans s5) ha,hb,hl,by omega,by omega,fun p H6 fp pk6 s6 => ?_⟩
     have s56 : Same H' H6 := s5.trans s6
     have ndn : (namesOf hs).Nodup := by rw [nms]; exact (List.take_sublist _ _).nodup nd
     have fewn : (namesOf hs).length <= 24 := by rw [nms,List.length_take]; omega
     refine ⟨p,lh,dh,vh,hs,kvs,rfl,pk6,s56 _ _ elh,paired_mono (fun _ _ z => z.ts s56.tups) ph,by omega,(fun h hh => (gh h hh).toGoodHouse),ndn,fewn,s56 _ _ edh,keys,vals,fun x ls H7 lat gl pk7 sb7 => ?_⟩
     have S7 : Same H5 H7 := same_new s6 fp sb7
     refine ⟨by show 2 <= sizeLine; omega,fun t ft => ?_⟩
     have S7t : Same H5 (upd H7 t (.tup [.ref t1,x])) := S7.upd ft
     refine q (.ref t) hs ls _ ⟨t,.ref t1,x,rfl,upd_same,⟨t1,vh,rfl,S7t _ _ et1,paired_mono (fun _ _ z => z.ts (s5.trans S7t).tups) ph⟩,lat.ts ((Tups.refl H7).new ft)⟩ ⟨by omega,by omega,(fun h hh => (gh h hh).toGoodHouse),by rw [hnm]; exact (List.take_sublist _ _).nodup nm_nodup,ndn,fewn⟩ gl (fun z hz => List.mem_of_mem_take (hnm ▸ hz)) (fun h hh => (gh h hh).narrow) (SH.trans (s5.trans S7t))
theorem sc_rows : FnScope ["_law_ledger_here","_law_found","_law_house_here","_law_run"] ["_law_ledger_here"] (defScope sRows) := ⟨rfl,rfl,rfl,by decide +kernel,rfl,by decide +kernel,by decide +kernel⟩
theorem ok_rows {f : Addr} {fd : FuncData} (F : Fun K "_law_rows" "_law_rows" sRows f fd) (T : Txt mg t8) : FnOk P w K mg base CX0 1 f fd ["_law_ledger_here"] spRows := by
 refine F.ok sc_rows (fun vs H Q E h => ?_) (fun cdv A outer s H vs Q E hr h => ?_)
 . obtain ⟨x,hs,ls,rfl,_⟩ := h
   rfl
 . obtain ⟨x,hs,ls,rfl,⟨a,y,z,rfl,ha,⟨c,vh,rfl,hc,ph⟩,hL⟩,gh,q⟩ := h
   have sl0 : sizeLine = 16777216 := sizeLine_eq
   refine ⟨_,(pss_cons (ps_set (i := 1) sc_rows.nd rfl (Or.inl rfl) (pe_lst pa_nil)) (pss_cons (ps_for PassesOwn.never rfl (pi_tup (pe_ix iIxT (pV 0) pe_int (fun _ _ => rfl))) (pg_name (i := 2) sc_rows.nd rfl (Or.inl rfl)) (pss_one (ps_for PassesOwn.never rfl (pi_tup (pe_ix iIxT (pV 2) pe_int (fun _ _ => rfl))) (pg_name (i := 3) sc_rows.nd rfl (Or.inl rfl)) (pss_one (ps_expr (pe_bm PySem.F.plainAttrs_list PySem.F.slot_list_extend PySem.F.type_list_extend mt_extend (pV 1) (pa_cons (pe_comp (scX := defScope sRows) (own := ["_law_row","_law_reading"]) (cap := []) (ix := []) rfl rfl ⟨rfl,by decide +kernel,by decide +kernel,by decide +kernel,rfl,by decide +kernel⟩ (pi_tup (pV 3)) (fun b => (pg_tup rfl (pgs_cons (pg_name (i := 0) (show (["_law_row","_law_reading"]:List Str).Nodup by decide +kernel) rfl (Or.inl rfl)) (pgs_cons (pg_name (i := 1) (show (["_law_row","_law_reading"]:List Str).Nodup by decide +kernel) rfl (Or.inl rfl)) pgs_nil)))) (fun b => pif_nil) (fun b => (pV 0))) pa_nil))))))) (pss_one (ps_ret (pe_callB call_sorted rfl T.sorted PyProof.Rows.boot_sorted (pa_cons (pV 1) pa_nil)))))),?_⟩
   refine ⟨Nat.zero_le _,fun D hD => ?_⟩
   have s0 : Same H (upd H D (.lst [])) := (Same.refl H).upd hD
   refine ixTup (SqT.of (s0 _ _ ha)) (i := 0) (v := .ref c) (by rfl) ?_
   refine ⟨c,rfl,⟨_,SqT.of (s0 _ _ hc)⟩,for_tup (xs := vh) (fun i σ H' => ∃ o2 o3 : Option V,σ = [some (.ref a),some (.ref D),o2,o3] /\ Grow H H' D (((hs.take i).flatMap namesH).map V.str)) ⟨none,none,rfl,Grow.start hD⟩ (fun i σ H' _ hz10 => by obtain ⟨_,_,_,G⟩ := hz10; exact SqT.of (G.same _ _ hc)) (fun i x σ H' hx hz11 => ?_) (fun σ H' hz12 => ?_)⟩
   . obtain ⟨o2,o3,eσ,G⟩ := hz11
     subst eσ
     obtain ⟨hh,hhi,b,d,ez34,gb,c2,vr,ez35,gc,pr⟩ := paired_getL ph hx
     subst ez34
     subst ez35
     refine ixTup (SqT.of (G.same _ _ gb)) (i := 4) (v := .ref c2) (by rfl) ?_
     refine ⟨c2,rfl,⟨_,SqT.of (G.same _ _ gc)⟩,for_tup (xs := vr) (fun j σ H' => ∃ o3 : Option V,σ = [some (.ref a),some (.ref D),some (.ref b),o3] /\ Grow H H' D (((hs.take i).flatMap namesH ++ (hh.runs.take j).flatten.map Prod.fst).map V.str)) ⟨o3,rfl,by simpa using G⟩ (fun j σ H' _ hz13 => by obtain ⟨_,_,G⟩ := hz13; exact SqT.of (G.same _ _ gc)) (fun j y σ H' hy hz14 => ?_) (fun σ H' hz15 => ?_)⟩
     . obtain ⟨o3,eσ,G⟩ := hz14
       subst eσ
       obtain ⟨r,hri,c3,ws,ez36,gw,pw⟩ := paired_getL pr hy
       subst ez36
       have gd := gh.all hh (List.mem_of_getElem? hhi)
       have gr := gd.runs r (List.mem_of_getElem? hri)
       have few := gr.few
       have lw := pw.length
       refine ⟨.inl ⟨rfl,_,SqL.of G.at'⟩,?_⟩
       refine ⟨c3,rfl,⟨_,SqT.of (G.same _ _ gw)⟩,fun E' hE => comp_map (xs := ws) (ys := r.map fun x => V.str x.1) hE (SqT.of (G.same _ _ gw)) (by omega) (by rw [List.length_map]; omega) (fun t x H2 hx s2 b R hR => ?_) (fun H2 s2 e2 => ?_)⟩
       . obtain ⟨rr,hrr,ra⟩ := paired_getL pw hx
         obtain ⟨a1,rfl,g1⟩ := ra.ts (G.same.trans s2).tups
         refine ⟨a1,_,rfl,SqT.of g1,rfl,_,_,rfl,_,_,rfl,rfl,?_⟩
         exact hR H2 _ (by rw [List.getElem?_map,hrr]; rfl) (Same.refl _)
       . have G2 := G.more s2
         have total : ((hs.take i).flatMap namesH ++ (hh.runs.take j).flatten.map Prod.fst).length + r.length <= 24 := by
           have z := gh.few
           have e1 : hs = hs.take i ++ (hh :: hs.drop (i + 1)) := by
             obtain ⟨li,fi⟩ := List.getElem?_eq_some_iff.mp hhi
             rw [<- fi,List.getElem_cons_drop,List.take_append_drop]
           have e2 : hh.runs = hh.runs.take j ++ (r :: hh.runs.drop (j + 1)) := by
             obtain ⟨li,fi⟩ := List.getElem?_eq_some_iff.mp hri
             rw [<- fi,List.getElem_cons_drop,List.take_append_drop]
           have e3 : namesOf hs = (hs.take i).flatMap namesH ++ (namesH hh ++ (hs.drop (i + 1)).flatMap namesH) := by
             unfold namesOf
             conv => lhs; rw [e1]
             rw [List.flatMap_append,List.flatMap_cons]
           have e4 : namesH hh = ((hh.runs.take j).flatten ++ (r ++ (hh.runs.drop (j + 1)).flatten)).map Prod.fst := by
             unfold namesH rowsH
             conv => lhs; rw [e2]
             rw [List.flatten_append,List.flatten_cons]
           rw [e3,e4] at z
           simp only [List.length_append,List.length_map] at z ⊢
           omega
         refine ⟨D,E',_,_,rfl,rfl,G2.at',e2,by rw [List.length_map,List.length_map]; omega,?_⟩
         refine ⟨_,rfl,⟨?_,fun b o e => by rw [upd_ne (ne_of_none e hD)]; exact G2.same _ _ e⟩⟩
         rw [upd_same,List.take_add_one,hri,List.flatten_append]
         simp
     . obtain ⟨o3,eσ,G⟩ := hz15
       subst eσ
       refine ⟨_,_,rfl,?_⟩
       rw [pr.length,List.take_length] at G
       rw [List.take_add_one,hhi,List.flatMap_append]
       simpa [namesH,rowsH] using G
   . obtain ⟨o2,o3,eσ,G⟩ := hz12
     subst eσ
     have e := G.at'
     rw [ph.length,List.take_length] at e
     have few := gh.few
     refine ⟨D,namesOf hs,rfl,SqL.of e,by omega,fun l ss hl pm so => ?_⟩
     exact q l ss _ upd_same (G.same.upd hl) pm so
end
end K04
namespace K04
open PySem L2 K02
def spBent : Sp := fun vs H Q _ => ∃ (p : Addr) (x : V) (hs : List House) (ls : List Letter),vs = [.ref p,x] /\ PackAt H p /\ DaAt H x (.tup [housesDa hs,lettersDa ls]) /\ GoodHouses hs /\ GoodLetters hs ls /\ (∀ h ∈ hs,h.high - h.low <= 300) /\
 ∀ (y : V) (hs' : List House) (ls' : List Letter) (H' : Hp),DaAt H' y (.tup [housesDa hs',lettersDa ls']) -> GoodHouses hs' -> GoodLetters hs' ls' -> hs'.map House.name = hs.map House.name -> (∀ h ∈ hs',h.high - h.low <= 1300) -> PackAt H' p -> SameB p H H' -> Q y H'
theorem pack_same {H H1 : Hp} {p : Addr} (h : PackAt H p) (s : Same H H1) : PackAt H1 p := let ⟨n,e,n0⟩ := h; ⟨n,s _ _ e,n0⟩
theorem put_narrow {hs : List House} {k : Nat} {n : Str} {lo hi dr : Int} {rs : List (List Row)} (nw : ∀ h ∈ hs,h.high - h.low <= 300) (nh : hi - lo <= 1300) : ∀ h ∈ putH hs k ⟨n,lo,hi,dr,rs⟩,h.high - h.low <= 1300 := fun h hh => by
 unfold putH at hh
 rcases List.mem_append.mp hh with z | z
 . rcases List.mem_append.mp z with z | z
   . have := nw h (List.mem_of_mem_take z); omega
   . rw [List.mem_singleton.mp z]; exact nh
 . have := nw h (List.mem_of_mem_drop z); omega
section
variable {P : Program} {w : World} {K : PySem.W.Frag} {mg : Str -> Option Value} {base : Heap} {t8 : Tok}
theorem sc_bent : FnScope ["_law_pack_here","_law_ledger_here","_law_houses","_law_letters_here","_law_pick","_law_more","_law_at","_law_name","_law_low","_law_high","_law_drift","_law_runs","_law_k","_law_one","_law_other","_law_least","_law_most","_law_moved","_law_house_here"] ["_law_pack_here","_law_ledger_here"] (defScope sBent) := ⟨rfl,rfl,rfl,by decide +kernel,rfl,by decide +kernel,by decide +kernel⟩
theorem ok_bent {f F_t : Addr} {fd D_t : FuncData} (F : Fun K "_law_bent" "_law_bent" sBent f fd) (T : Txt mg t8)
   (G_t : FnOk P w K mg base CX0 1 F_t D_t ["_law_pack_here","_law_size"] spTake) (M_t : mg "_law_take" = some (.ref F_t)) (N_t : PySem.W.keepIn K (.ref F_t) = true) (B_t : Binds K D_t ["_law_pack_here","_law_size"] []) : FnOk P w K mg base CX0 2 f fd ["_law_pack_here","_law_ledger_here"] spBent := by
 refine F.ok sc_bent (fun vs H Q E h => ?_) (fun cdv A outer s H vs Q E hr h => ?_)
 . obtain ⟨p,x,hs,ls,rfl,_⟩ := h
   rfl
 . obtain ⟨p,x,hs,ls,rfl,hp,hx,gh,gl,nw,q⟩ := h
   have sl0 : sizeLine = 16777216 := sizeLine_eq
   have lh6 := gh.hi
   have lh1 := gh.lo
   have l24 := gl.few
   obtain ⟨a,us,rfl,ea,_,ru⟩ := hx.tupE
   obtain ⟨vh,vl,rfl,hH0,hL0⟩ := ru.two
   have hH : DaAt H vh (.tup (hs.map houseDa)) := hH0
   have hL : DaAt H vl (.tup (ls.map letterDa)) := hL0
   refine ⟨_,(SSs.h (qss_cons (qs_asg (qV 1) (qg_tup rfl (qgs_cons (qg_name (i := 2) sc_bent.nd rfl (Or.inl rfl)) (qgs_cons (qg_name (i := 3) sc_bent.nd rfl (Or.inl rfl)) qgs_nil)))) (qss_cons (qs_set (i := 4) sc_bent.nd rfl (Or.inl rfl) (qe_call G_t hr rfl M_t N_t B_t .nil pass0 (qa_cons (qV 0) (qa_cons qe_int qa_nil)))) (qss_cons (qs_set (i := 5) sc_bent.nd rfl (Or.inr rfl) (qe_ix ⟨iIx⟩ (qe_lst (qa_cons qe_int (qa_cons (qe_un ⟨uNeg⟩ qe_int) (qa_cons qe_int (qa_cons (qe_un ⟨uNeg⟩ qe_int) (qa_cons qe_int (qa_cons (qe_un ⟨uNeg⟩ qe_int) (qa_cons qe_int (qa_cons (qe_un ⟨uNeg⟩ qe_int) qa_nil))))))))) (qe_call G_t hr rfl M_t N_t B_t .nil pass0 (qa_cons (qV 0) (qa_cons qe_int qa_nil))) (fun _ _ => rfl))) (qss_cons (qs_set (i := 6) sc_bent.nd rfl (Or.inl rfl) (qe_call G_t hr rfl M_t N_t B_t .nil pass0 (qa_cons (qV 0) (qa_cons (qe_callB ⟨call_len_seq⟩ rfl T.len PySem.boot_len (qa_cons (qV 2) qa_nil)) qa_nil)))) (qss_cons (qs_asg (qe_ix ⟨iIxT⟩ (qV 2) (qV 6) (fun _ _ => rfl)) (qg_tup rfl (qgs_cons (qg_name (i := 7) sc_bent.nd rfl (Or.inl rfl)) (qgs_cons (qg_name (i := 8) sc_bent.nd rfl (Or.inl rfl)) (qgs_cons (qg_name (i := 9) sc_bent.nd rfl (Or.inl rfl)) (qgs_cons (qg_name (i := 10) sc_bent.nd rfl (Or.inl rfl)) (qgs_cons (qg_name (i := 11) sc_bent.nd rfl (Or.inl rfl)) qgs_nil))))))) (qss_cons (qs_if (qtAnd (qtC ⟨oGt⟩ (qV 4) qe_int (nomark _)) (qw_and1 (qtC ⟨(oNeT hr.units0)⟩ (qV 3) (qe_tup qa_nil) (nomark _)))) (qss_cons (qs_set (i := 12) sc_bent.nd rfl (Or.inl rfl) (qe_call G_t hr rfl M_t N_t B_t .nil pass0 (qa_cons (qV 0) (qa_cons (qe_callB ⟨call_len_seq⟩ rfl T.len PySem.boot_len (qa_cons (qV 3) qa_nil)) qa_nil)))) (qss_cons (qs_asg (qe_ix ⟨iIxT⟩ (qV 3) (qV 12) (fun _ _ => rfl)) (qg_tup rfl (qgs_cons (qg_name (i := 13) sc_bent.nd rfl (Or.inl rfl)) (qgs_cons (qg_name (i := 14) sc_bent.nd rfl (Or.inl rfl)) (qgs_cons (qg_name (i := 15) sc_bent.nd rfl (Or.inl rfl)) (qgs_cons (qg_name (i := 16) sc_bent.nd rfl (Or.inl rfl)) qgs_nil)))))) (qss_cons (qs_set (i := 15) sc_bent.nd rfl (Or.inl rfl) (qe_callB ⟨(call_max2 rfl)⟩ rfl T.max PyProof.Rows.boot_max (qa_cons qe_int (qa_cons (qe_op ⟨oAdd⟩ (qV 15) (qV 5)) qa_nil)))) (qss_cons (qs_if (qt_cmp (qc_notN (qV 16))) (qss_one (qs_set (i := 16) sc_bent.nd rfl (Or.inl rfl) (qe_callB ⟨(call_max2 rfl)⟩ rfl T.max PyProof.Rows.boot_max (qa_cons (qV 15) (qa_cons (qe_op ⟨oSub⟩ (qV 16) (qe_op ⟨oMul⟩ (qe_callB ⟨call_abs⟩ rfl T.abs PyProof.Rows.boot_abs (qa_cons (qV 5) qa_nil)) (qe_op ⟨oSub⟩ (qV 4) qe_int))) qa_nil))))) qss_nil) (qss_one (qs_ret (qe_tup (qa_cons (qV 2) (qa_cons (qe_op ⟨oCatA⟩ (qe_op ⟨oCatA⟩ (qe_slice ⟨iSlA⟩ (qV 3) qo_none (qoI (qV 12))) (qe_tup (qa_cons (qe_tup (qa_cons (qV 13) (qa_cons (qV 14) (qa_cons (qV 15) (qa_cons (qV 16) qa_nil))))) qa_nil))) (qe_slice ⟨iSlA⟩ (qV 3) (qoI (qe_op ⟨oAdd⟩ (qV 12) qe_int)) qo_none)) qa_nil))))))))) qss_nil) (qss_cons (qs_if (qtC ⟨oEq⟩ (qV 4) qe_int (nomark _)) (qss_one (qs_set (i := 8) sc_bent.nd rfl (Or.inl rfl) (qe_callB ⟨(call_min2 rfl)⟩ rfl T.min PyProof.Rows.boot_min (qa_cons (qV 9) (qa_cons (qe_op ⟨oAdd⟩ (qV 8) (qV 5)) qa_nil))))) qss_nil) (qss_cons (qs_if (qtC ⟨oEq⟩ (qV 4) qe_int (nomark _)) (qss_one (qs_set (i := 9) sc_bent.nd rfl (Or.inl rfl) (qe_callB ⟨(call_max2 rfl)⟩ rfl T.max PyProof.Rows.boot_max (qa_cons (qV 8) (qa_cons (qe_op ⟨oAdd⟩ (qV 9) (qV 5)) qa_nil))))) qss_nil) (qss_cons (qs_if (qtC ⟨oEq⟩ (qV 4) qe_int (nomark _)) (qss_one (qs_set (i := 10) sc_bent.nd rfl (Or.inl rfl) (qe_callB ⟨(call_max2 rfl)⟩ rfl T.max PyProof.Rows.boot_max (qa_cons qe_int (qa_cons (qe_op ⟨oAdd⟩ (qV 10) (qV 5)) qa_nil))))) qss_nil) (qss_cons (qs_if (qtAnd (qtC ⟨oGt⟩ (qV 4) qe_int (nomark _)) (qw_and1 (qtC ⟨(oNeT hr.units0)⟩ (qV 11) (qe_tup qa_nil) (nomark _)))) (qss_cons (qs_set (i := 12) sc_bent.nd rfl (Or.inl rfl) (qe_call G_t hr rfl M_t N_t B_t .nil pass0 (qa_cons (qV 0) (qa_cons (qe_callB ⟨call_len_seq⟩ rfl T.len PySem.boot_len (qa_cons (qV 11) qa_nil)) qa_nil)))) (qss_cons (qs_set (i := 17) sc_bent.nd rfl (Or.inl rfl) (qe_callTy ⟨call_tuple_of⟩ rfl T.tuple PyProof.Rows.boot_tuple (qa_cons (qe_comp (scX := defScope sBent) (own := ["_law_row","_law_reading"]) (cap := ["_law_more"]) (ix := [5]) rfl rfl ⟨rfl,by decide +kernel,by decide +kernel,by decide +kernel,rfl,by decide +kernel⟩ (qi_tup (qe_ix ⟨iIxT⟩ (qV 11) (qV 12) (fun _ _ => rfl))) (fun b => (qg_tup rfl (qgs_cons (qg_name (i := 0) (show (["_law_row","_law_reading","_law_more"]:List Str).Nodup by decide +kernel) rfl (Or.inl rfl)) (qgs_cons (qg_name (i := 1) (show (["_law_row","_law_reading","_law_more"]:List Str).Nodup by decide +kernel) rfl (Or.inl rfl)) qgs_nil)))) (fun b => qif_nil) (fun b => (qe_tup (qa_cons (qV 0) (qa_cons (qe_op ⟨oAdd⟩ (qV 1) (qV 2)) qa_nil))))) qa_nil))) (qss_one (qs_set (i := 11) sc_bent.nd rfl (Or.inl rfl) (qe_op ⟨oCatA⟩ (qe_op ⟨oCatA⟩ (qe_slice ⟨iSlA⟩ (qV 11) qo_none (qoI (qV 12))) (qe_tup (qa_cons (qV 17) qa_nil))) (qe_slice ⟨iSlA⟩ (qV 11) (qoI (qe_op ⟨oAdd⟩ (qV 12) qe_int)) qo_none)))))) qss_nil) (qss_cons (qs_set (i := 18) sc_bent.nd rfl (Or.inl rfl) (qe_tup (qa_cons (qV 7) (qa_cons (qV 8) (qa_cons (qV 9) (qa_cons (qV 10) (qa_cons (qV 11) qa_nil))))))) (qss_one (qs_ret (qe_tup (qa_cons (qe_op ⟨oCatA⟩ (qe_op ⟨oCatA⟩ (qe_slice ⟨iSlA⟩ (qV 2) qo_none (qoI (qV 6))) (qe_tup (qa_cons (qV 18) qa_nil))) (qe_slice ⟨iSlA⟩ (qV 2) (qoI (qe_op ⟨oAdd⟩ (qV 6) qe_int)) qo_none)) (qa_cons (qV 3) qa_nil))))))))))))))))),?_⟩
   refine asg_h fun Uz hUz => ?_
   refine ⟨a,_,rfl,SqT.of ea,rfl,_,_,rfl,_,_,rfl,rfl,?_⟩
   subst hUz
   show tSeq (tAsg _ _) _ _ [some (.ref p),some (.ref a),some vh,some vl,none,none,none,none,none,none,none,none,none,none,none,none,none,none,none] H
   refine asg_h fun Uz hUz => ?_
   refine ⟨p,6,rfl,hp,by decide,by decide,fun pk H1 pk0 pk1 hp1 sb1 => ?_⟩
   have k1 := kp_take hp hp1 sb1
   subst hUz
   show tSeq (tAsg _ _) _ _ [some (.ref p),some (.ref a),some vh,some vl,some (.int pk),none,none,none,none,none,none,none,none,none,none,none,none,none,none] H1
   refine asg_h fun Uz hUz => ?_
   refine ⟨by show 8 <= sizeLine; omega,fun l8 fl8 => ?_⟩
   have hp1' : PackAt (upd H1 l8 (.lst ([1,-1,7,-7,60,-60,500,-500].map V.int))) p := hp1.new fl8
   refine ⟨p,8,rfl,hp1',by decide,by decide,fun mi H2 mi0 mi1 hp2 sb2' => ?_⟩
   have el8 : H2 l8 = some (.lst ([1,-1,7,-7,60,-60,500,-500].map V.int)) := sb2' l8 _ (fun z => by obtain ⟨n,e,_⟩ := hp1; rw [<- z,fl8] at e; cases e) upd_same
   have sb2 : SameB p H1 H2 := fun c o n z => sb2' c o n (((Same.refl H1).upd fl8) c o z)
   obtain ⟨mi,rfl⟩ := Int.eq_ofNat_of_zero_le mi0
   obtain ⟨mo,emo,bmo⟩ : ∃ mo : Int,([1,-1,7,-7,60,-60,500,-500] : List Int)[mi]? = some mo /\ -500 <= mo /\ mo <= 500 := by
     have hi : mi < 8 := by omega
     match mi,hi with
     | 0,_ => exact ⟨_,rfl,by decide,by decide⟩
     | 1,_ => exact ⟨_,rfl,by decide,by decide⟩
     | 2,_ => exact ⟨_,rfl,by decide,by decide⟩
     | 3,_ => exact ⟨_,rfl,by decide,by decide⟩
     | 4,_ => exact ⟨_,rfl,by decide,by decide⟩
     | 5,_ => exact ⟨_,rfl,by decide,by decide⟩
     | 6,_ => exact ⟨_,rfl,by decide,by decide⟩
     | 7,_ => exact ⟨_,rfl,by decide,by decide⟩
   refine ixAt el8 (v := .int mo) (atI_nat (by rw [List.getElem?_map,emo]; rfl)) ?_
   have k2 := k1.trans (kp_take hp1 hp2 sb2)
   have SB2 : SameB p H H2 := sb1.trans sb2
   subst hUz
   show tSeq (tAsg _ _) _ _ [some (.ref p),some (.ref a),some vh,some vl,some (.int pk),some (.int mo),none,none,none,none,none,none,none,none,none,none,none,none,none] H2
   obtain ⟨ch,wh,ez40,ech,_,rh⟩ := hH.tupE
   subst ez40
   have lwh := rh.len
   rw [List.length_map] at lwh
   refine asg_h fun Uz hUz => ?_
   refine ⟨ch,wh,rfl,.inr (SqT.of (k2.tup _ _ ech)),?_⟩
   refine ⟨p,(wh.length : Int),rfl,hp2,by omega,by omega,fun kk H3 kk0 kk1 hp3 sb3 => ?_⟩
   obtain ⟨k,rfl⟩ := Int.eq_ofNat_of_zero_le kk0
   have k3 := k2.trans (kp_take hp2 hp3 sb3)
   have SB3 : SameB p H H3 := SB2.trans sb3
   have lk : k < hs.length := by omega
   obtain ⟨h,hk⟩ : ∃ h,hs[k]? = some h := ⟨_,List.getElem?_eq_getElem lk⟩
   obtain ⟨vk,hvk⟩ : ∃ v,wh[k]? = some v := ⟨_,List.getElem?_eq_getElem (by omega)⟩
   obtain ⟨dk,hdk,avk⟩ := rh.get hvk
   rw [List.getElem?_map,hk] at hdk
   obtain rfl : houseDa h = dk := Option.some.inj hdk
   have hm := List.mem_of_getElem? hk
   have gd := gh.all h hm
   have nwh := nw h hm
   have lr : h.runs.length <= 24 := runs_few gh hm
   subst hUz
   show tSeq (tAsg _ _) _ _ [some (.ref p),some (.ref a),some (.ref ch),some vl,some (.int pk),some (.int mo),some (.int (k : Int)),none,none,none,none,none,none,none,none,none,none,none,none] H3
   refine asg_h fun Uz hUz => ?_
   refine ixTup (SqT.of (k3.tup _ _ ech)) (v := vk) (atI_nat hvk) ?_
   obtain ⟨ck,uk,ez41,eck,_,rk⟩ := avk.tupE
   subst ez41
   obtain ⟨w1,w2,w3,w4,w5,ez42,hN,q2,q3,q4,hR0⟩ := rk.five
   subst ez42
   cases q2
   cases q3
   cases q4
   have hR : DaAt H w5 (.tup (h.runs.map runDa)) := hR0
   refine ⟨ck,_,rfl,SqT.of (k3.tup _ _ eck),rfl,_,_,rfl,_,_,rfl,_,_,rfl,_,_,rfl,_,_,rfl,rfl,?_⟩
   subst hUz
   show tSeq (tIfS _ _ _) _ _ [some (.ref p),some (.ref a),some (.ref ch),some vl,some (.int pk),some (.int mo),some (.int (k : Int)),some w1,some (.int h.low),some (.int h.high),some (.int h.drift),some w5,none,none,none,none,none,none,none] H3
   refine if_join (fun σ' H' => σ' = [some (.ref p),some (.ref a),some (.ref ch),some vl,some (.int pk),some (.int mo),some (.int (k : Int)),some w1,some (.int h.low),some (.int h.high),some (.int h.drift),some w5,none,none,none,none,none,none,none] /\ PackAt H' p /\ Kp H H' /\ SameB p H H') (fun U hU => ?_) (fun σ' H4 hz21 => ?_)
   . refine ite2 (fun c1 => ?_) (fun c1 => ?_)
     . refine ⟨Nat.zero_le _,fun e0 he0 => ?_⟩
       obtain ⟨cl,wl,ez43,ecl,_,rl⟩ := hL.tupE
       subst ez43
       have lwl := rl.len
       rw [List.length_map] at lwl
       have s4 : Same H3 (upd H3 e0 (.tup [])) := (Same.refl _).upd he0
       have hp4 : PackAt (upd H3 e0 (.tup [])) p := hp3.new he0
       refine ⟨⟨cl,e0,wl,rfl,rfl,s4 _ _ (k3.tup _ _ ecl),upd_same,?_⟩⟩
       generalize upd H3 e0 (.tup []) = H4 at s4 hp4
       have k4 : Kp H H4 := k3.trans (Kp.of s4)
       have SB4 : SameB p H H4 := SB3.trans (SameB.of s4)
       refine ite2 (fun c2 => ?_) (fun c2 => ?_)
       . have nl : 0 < wl.length := by
           cases wl with
           | nil => exact absurd c2 (by decide)
           | cons _ _ => exact Nat.succ_pos _
         refine asg_s ⟨cl,wl,rfl,.inr (SqT.of (k4.tup _ _ ecl)),?_⟩
         refine ⟨p,(wl.length : Int),rfl,hp4,by omega,by omega,fun jj H5 jj0 jj1 hp5 sb5 => ?_⟩
         obtain ⟨j,rfl⟩ := Int.eq_ofNat_of_zero_le jj0
         have k5 := k4.trans (kp_take hp4 hp5 sb5)
         have SB5 : SameB p H H5 := SB4.trans sb5
         have lj : j < ls.length := by omega
         obtain ⟨l,hj⟩ : ∃ l,ls[j]? = some l := ⟨_,List.getElem?_eq_getElem lj⟩
         obtain ⟨vj,hvj⟩ : ∃ v,wl[j]? = some v := ⟨_,List.getElem?_eq_getElem (by omega)⟩
         obtain ⟨dj,hdj,avj⟩ := rl.get hvj
         rw [List.getElem?_map,hj] at hdj
         obtain rfl : letterDa l = dj := Option.some.inj hdj
         have gj := gl.all l (List.mem_of_getElem? hj)
         refine asg_s (ixTup (SqT.of (k5.tup _ _ ecl)) (v := vj) (atI_nat hvj) ?_)
         obtain ⟨cj,uj,ez44,ecj,_,rj⟩ := avj.tupE
         subst ez44
         obtain ⟨y1,y2,y3,y4,ez45,h1,h2,q3,h4⟩ := rj.four
         subst ez45
         cases q3
         refine ⟨cj,_,rfl,SqT.of (k5.tup _ _ ecj),rfl,_,_,rfl,_,_,rfl,_,_,rfl,_,_,rfl,rfl,?_⟩
         refine asg_h fun Uz hUz => ?_
         refine ⟨1,l.2.1 + mo,rfl,?_⟩
         obtain ⟨le,ele,ge⟩ : ∃ le : Int,le = (if l.2.1 + mo > 1 then l.2.1 + mo else 1) /\ 1 <= le := ⟨_,rfl,by split <;> omega⟩
         rw [<- ele]
         have fin : ∀ (vm : V) (mm : Option Int) (H6 : Hp),Same H5 H6 -> DaAt H6 vm (mostDa mm) -> (∀ m,mm = some m -> le <= m) -> tRet (tTup (tCons (tV 2) (tCons (tOp CatA (tOp CatA (tSl SlA (tV 3) tNoPart (tPartF (tV 12))) (tTup (tCons (tTup (tCons (tV 13) (tCons (tV 14) (tCons (tV 15) (tCons (tV 16) tNil))))) tNil))) (tSl SlA (tV 3) (tPartF (tOp (fI fun i j => .int (i + j)) (tV 12) (tC (.int 1)))) tNoPart)) tNil))) ⟨fun _ _ => False,Q,fun _ _ => False,fun _ _ => False⟩ [some (.ref p),some (.ref a),some (.ref ch),some (.ref cl),some (.int pk),some (.int mo),some (.int (k : Int)),some w1,some (.int h.low),some (.int h.high),some (.int h.drift),some w5,some (.int (j : Int)),some y1,some y2,some (.int le),some vm,none,none] H6 := fun vm mm H6 s6 hmo hge => by
           refine TD.use (σ := [some (.ref p),some (.ref a),some (.ref ch),some (.ref cl),some (.int pk),some (.int mo),some (.int (k : Int)),some w1,some (.int h.low),some (.int h.high),some (.int h.drift),some w5,some (.int (j : Int)),some y1,some y2,some (.int le),some vm,none,none]) (te := tTup _) (td_tup (tds_cons (td_v2 (hH.kp (k5.trans (Kp.of s6)))) (tds_cons (td_cat (td_cat (td_to (k := j) (td_v3 (hL.kp (k5.trans (Kp.of s6)))) (tpo_i (td_v12 (.int _)))) (td_tup (tds_cons (td_tup (tds_cons (td_v13 (h1.kp (k5.trans (Kp.of s6)))) (tds_cons (td_v14 (h2.kp (k5.trans (Kp.of s6)))) (tds_cons (td_v15 (.int _)) (tds_cons (td_v16 hmo) tds_nil)))) (by exact Nat.le_of_ble_eq_true rfl)) tds_nil) (by exact Nat.le_of_ble_eq_true rfl)) (by simp only [List.length_append,List.length_map,List.length_take,List.length_drop,List.length_cons,List.length_nil]; omega)) (td_from (k := (j + 1)) (td_v3 (hL.kp (k5.trans (Kp.of s6)))) (tpo_i (td_add1 (td_v12 (.int _))))) (by simp only [List.length_append,List.length_map,List.length_take,List.length_drop,List.length_cons,List.length_nil]; omega)) tds_nil)) (by exact Nat.le_of_ble_eq_true rfl)) (Same.refl _) fun v H7 s7 hv => ?_
           refine q v hs (putH ls j ((l.1.1,l.1.2),le,mm)) H7 ?_ gh (letter_put gl hj rfl ge hge) rfl (fun h2 hh2 => by have := nw h2 hh2; omega) (pack_same hp5 (s6.trans s7)) (SB5.trans (SameB.of (s6.trans s7)))
           have e : lettersDa (putH ls j ((l.1.1,l.1.2),le,mm)) = .tup ((ls.map letterDa).take j ++ [.tup [.str l.1.1,.str l.1.2,.int le,mostDa mm]] ++ (ls.map letterDa).drop (j + 1)) := by
             unfold lettersDa putH
             rw [List.map_append,List.map_append,List.map_take,List.map_drop]
             rfl
           rw [e]
           exact hv
         subst hUz
         show tSeq (tIfS _ _ _) _ _ [some (.ref p),some (.ref a),some (.ref ch),some (.ref cl),some (.int pk),some (.int mo),some (.int (k : Int)),some w1,some (.int h.low),some (.int h.high),some (.int h.drift),some w5,some (.int (j : Int)),some y1,some y2,some (.int le),some y4,none,none] H5
         refine if_join (fun σ' H' => ∃ (vm : V) (mm : Option Int),σ' = [some (.ref p),some (.ref a),some (.ref ch),some (.ref cl),some (.int pk),some (.int mo),some (.int (k : Int)),some w1,some (.int h.low),some (.int h.high),some (.int h.drift),some w5,some (.int (j : Int)),some y1,some y2,some (.int le),some vm,none,none] /\ H' = H5 /\ DaAt H5 vm (mostDa mm) /\ ∀ m,mm = some m -> le <= m) (fun U hU => ?_) (fun σ' H' hz22 => ?_)
         . have ev := most_off h4
           subst ev
           cases em : l.2.2 with
           | none =>
             refine ⟨_,rfl,?_⟩
             refine hU _ _ ⟨.non,none,rfl,rfl,.non,fun m z => by cases z⟩
           | some mv =>
             refine ⟨_,rfl,?_⟩
             refine ⟨mo,rfl,?_⟩
             refine ⟨.inl ⟨by split <;> omega,by split <;> omega⟩,?_⟩
             refine ⟨_,_,rfl,?_⟩
             refine hU _ _ ⟨.int _,some _,rfl,rfl,.int _,fun m z => ?_⟩
             cases z
             split <;> omega
         . obtain ⟨vm,mm,eσ,eH,hvm,hge⟩ := hz22
           subst eσ eH
           exact fin vm mm _ (Same.refl _) hvm hge
       . exact hU _ _ ⟨rfl,hp4,k4,SB4⟩
     . exact hU _ _ ⟨rfl,hp3,k3,SB3⟩
   obtain ⟨eσ,hp4,k4,SB4⟩ := hz21
   subst eσ
   show tSeq (tIfS _ _ _) _ _ [some (.ref p),some (.ref a),some (.ref ch),some vl,some (.int pk),some (.int mo),some (.int (k : Int)),some w1,some (.int h.low),some (.int h.high),some (.int h.drift),some w5,none,none,none,none,none,none,none] H4
   refine if_join (fun σ' H' => ∃ lo : Int,σ' = [some (.ref p),some (.ref a),some (.ref ch),some vl,some (.int pk),some (.int mo),some (.int (k : Int)),some w1,some (.int lo),some (.int h.high),some (.int h.drift),some w5,none,none,none,none,none,none,none] /\ lo <= h.high /\ h.high - lo <= 800 /\ H' = H4) (fun U hU => ?_) (fun σ' H' hz23 => ?_)
   . refine ite2 (fun c => ?_) (fun c => ?_)
     . refine ⟨h.high,h.low + mo,rfl,?_⟩
       exact hU _ _ ⟨_,rfl,by split <;> omega,by split <;> omega,rfl⟩
     . exact hU _ _ ⟨_,rfl,gd.wide,by omega,rfl⟩
   obtain ⟨lo,eσ,hlo,nlo,eH⟩ := hz23
   subst eσ eH
   refine if_join (fun σ' H'' => ∃ hi : Int,σ' = [some (.ref p),some (.ref a),some (.ref ch),some vl,some (.int pk),some (.int mo),some (.int (k : Int)),some w1,some (.int lo),some (.int hi),some (.int h.drift),some w5,none,none,none,none,none,none,none] /\ lo <= hi /\ hi - lo <= 1300 /\ H'' = H') (fun U hU => ?_) (fun σ' H'' hz24 => ?_)
   . refine ite2 (fun c => ?_) (fun c => ?_)
     . refine ⟨lo,h.high + mo,rfl,?_⟩
       exact hU _ _ ⟨_,rfl,by split <;> omega,by split <;> omega,rfl⟩
     . exact hU _ _ ⟨_,rfl,hlo,by omega,rfl⟩
   obtain ⟨hi,eσ,hhi,nhi,eH⟩ := hz24
   subst eσ eH
   have gdr := gd.drift
   refine if_join (fun σ' H3 => ∃ dr : Int,σ' = [some (.ref p),some (.ref a),some (.ref ch),some vl,some (.int pk),some (.int mo),some (.int (k : Int)),some w1,some (.int lo),some (.int hi),some (.int dr),some w5,none,none,none,none,none,none,none] /\ 0 <= dr /\ H3 = H'') (fun U hU => ?_) (fun σ' H5 hz25 => ?_)
   . refine ite2 (fun c => ?_) (fun c => ?_)
     . refine ⟨0,h.drift + mo,rfl,?_⟩
       exact hU _ _ ⟨_,rfl,by split <;> omega,rfl⟩
     . exact hU _ _ ⟨_,rfl,gdr,rfl⟩
   obtain ⟨dr,eσ,hdr,eH⟩ := hz25
   subst eσ eH
   refine if_join (fun σ' H' => ∃ (vr : V) (rs : List (List Row)) (o12 o17 : Option V),σ' = [some (.ref p),some (.ref a),some (.ref ch),some vl,some (.int pk),some (.int mo),some (.int (k : Int)),some w1,some (.int lo),some (.int hi),some (.int dr),some vr,o12,none,none,none,none,o17,none] /\ DaAt H' vr (.tup (rs.map runDa)) /\ (∀ r ∈ rs,GoodRun r) /\ rs.flatten.map Prod.fst = h.runs.flatten.map Prod.fst /\ rs.length = h.runs.length /\ Kp H H' /\ SameB p H H' /\ PackAt H' p) (fun U hU => ?_) (fun σ' H6 hz26 => ?_)
   . refine ite2 (fun c1 => ?_) (fun c1 => ?_)
     . refine ⟨Nat.zero_le _,fun e0 he0 => ?_⟩
       obtain ⟨cr,wr,ez46,ecr,_,rr⟩ := hR.tupE
       subst ez46
       have lwr := rr.len
       rw [List.length_map] at lwr
       have s6 : Same H5 (upd H5 e0 (.tup [])) := (Same.refl _).upd he0
       have hp6 : PackAt (upd H5 e0 (.tup [])) p := hp4.new he0
       refine ⟨⟨cr,e0,wr,rfl,rfl,s6 _ _ (k4.tup _ _ ecr),upd_same,?_⟩⟩
       generalize upd H5 e0 (.tup []) = H6 at s6 hp6
       have k6 : Kp H H6 := k4.trans (Kp.of s6)
       have SB6 : SameB p H H6 := SB4.trans (SameB.of s6)
       refine ite2 (fun c2 => ?_) (fun c2 => ?_)
       . have nl : 0 < wr.length := by
           cases wr with
           | nil => exact absurd c2 (by decide)
           | cons _ _ => exact Nat.succ_pos _
         refine asg_s ⟨cr,wr,rfl,.inr (SqT.of (k6.tup _ _ ecr)),?_⟩
         refine ⟨p,(wr.length : Int),rfl,hp6,by omega,by omega,fun jj H7 jj0 jj1 hp7 sb7 => ?_⟩
         obtain ⟨j,rfl⟩ := Int.eq_ofNat_of_zero_le jj0
         have k7 := k6.trans (kp_take hp6 hp7 sb7)
         have SB7 : SameB p H H7 := SB6.trans sb7
         have lj : j < h.runs.length := by omega
         obtain ⟨r,hj⟩ : ∃ r,h.runs[j]? = some r := ⟨_,List.getElem?_eq_getElem lj⟩
         obtain ⟨vj,hvj⟩ : ∃ v,wr[j]? = some v := ⟨_,List.getElem?_eq_getElem (by omega)⟩
         obtain ⟨dj,hdj,avj⟩ := rr.get hvj
         rw [List.getElem?_map,hj] at hdj
         obtain rfl : runDa r = dj := Option.some.inj hdj
         have gr := gd.runs r (List.mem_of_getElem? hj)
         obtain ⟨cj,uj,ez47,ecj,lcj,rj⟩ := avj.tupE
         subst ez47
         have lr25 := gr.few
         refine asg_s (ixTup (SqT.of (k7.tup _ _ ecr)) (v := .ref cj) (atI_nat hvj) ?_)
         refine ⟨cj,rfl,⟨_,SqT.of (k7.tup _ _ ecj)⟩,fun D hD => comp_tupD (f := fun d => rowDa ((rowOf d).1,(rowOf d).2 + mo)) hD (k7.tup _ _ ecj) (rj.kp k7) (by rw [List.length_map]; omega) (fun x d H' hd hx s b R hR' => ?_) (fun vs8 H8 s8 e8 hv8 => ?_)⟩
         . obtain ⟨rw,hrw,rfl⟩ := List.mem_map.mp hd
           obtain ⟨ax,ux,ez48,eax,_,rx⟩ := hx.tupE
           subst ez48
           obtain ⟨x1,x2,ez49,z1,z2⟩ := rx.two
           subst ez49
           refine ⟨ax,_,rfl,SqT.of eax,rfl,_,_,rfl,_,_,rfl,rfl,?_⟩
           exact TD.use (σ := [some x1,some x2,some (.int mo)]) (d := .tup [.str rw.1,.int (rw.2 + mo)]) (td_tup (tds_cons (td_v0 z1) (tds_cons (td_add (td_v1 z2) (td_v2 (.int _))) tds_nil)) (by exact Nat.le_of_ble_eq_true rfl)) (Same.refl _) hR'
         . refine ⟨D,vs8,rfl,.inl ⟨SqL.of e8,fun t9 ft9 => ?_⟩⟩
           have s9 : Same H8 (upd H8 t9 (.tup vs8)) := (Same.refl _).upd ft9
           have hM : DaAt (upd H8 t9 (.tup vs8)) (.ref t9) (runDa (r.map fun r => (r.1,r.2 + mo))) := by
             refine .tup upd_same (by rw [hv8.len,List.length_map,List.length_map]; omega) ?_
             rw [List.map_map] at hv8 ⊢
             exact hv8.same s9
           generalize upd H8 t9 (.tup vs8) = H9 at s9 hM
           have s79 : Same H7 H9 := s8.trans s9
           have k9 : Kp H H9 := k7.trans (Kp.of s79)
           refine TD.use (σ := [some (.ref p),some (.ref a),some (.ref ch),some vl,some (.int pk),some (.int mo),some (.int (k : Int)),some w1,some (.int lo),some (.int hi),some (.int dr),some (.ref cr),some (.int (j : Int)),none,none,none,none,some (.ref t9),none]) (te := tOp CatA _ _) (td_cat (td_cat (td_to (k := j) (td_v11 (hR.kp k9)) (tpo_i (td_v12 (.int _)))) (td_tup (tds_cons (td_v17 hM) tds_nil) (by exact Nat.le_of_ble_eq_true rfl)) (by simp only [List.length_append,List.length_map,List.length_take,List.length_drop,List.length_cons,List.length_nil]; omega)) (td_from (k := (j + 1)) (td_v11 (hR.kp k9)) (tpo_i (td_add1 (td_v12 (.int _))))) (by simp only [List.length_append,List.length_map,List.length_take,List.length_drop,List.length_cons,List.length_nil]; omega)) (Same.refl _) fun v H10 s10 hv => ?_
           refine hU _ _ ⟨v,putH h.runs j (r.map fun r => (r.1,r.2 + mo)),_,_,rfl,?_,fun z hz => ?_,?_,putH_len hj,k9.trans (Kp.of s10),SB7.trans (SameB.of (s79.trans s10)),pack_same hp7 (s79.trans s10)⟩
           . have e : (putH h.runs j (r.map fun r => (r.1,r.2 + mo))).map runDa = (h.runs.map runDa).take j ++ [runDa (r.map fun r => (r.1,r.2 + mo))] ++ (h.runs.map runDa).drop (j + 1) := by
               unfold putH
               rw [List.map_append,List.map_append,List.map_take,List.map_drop]
               rfl
             rw [e]
             exact hv
           . rcases putH_mem hz with w | w
             . exact gd.runs z w
             . rw [w]; exact run_moved gr mo
           . exact runs_moved hj (by rw [List.map_map]; rfl)
       . exact hU _ _ ⟨_,h.runs,_,_,rfl,hR.kp k6,gd.runs,rfl,rfl,k6,SB6,hp6⟩
     . exact hU _ _ ⟨_,h.runs,_,_,rfl,hR.kp k4,gd.runs,rfl,rfl,k4,SB4,hp4⟩
   obtain ⟨vr,rs,o12,o17,eσ,hvr,grs,ers,lrs,k6,SB6,hp6z⟩ := hz26
   subst eσ
   refine asg_s (TD.use (σ := [some (.ref p),some (.ref a),some (.ref ch),some vl,some (.int pk),some (.int mo),some (.int (k : Int)),some w1,some (.int lo),some (.int hi),some (.int dr),some vr,o12,none,none,none,none,o17,none]) (te := tTup _) (td_tup (tds_cons (td_v7 (hN.kp k6)) (tds_cons (td_v8 (.int _)) (tds_cons (td_v9 (.int _)) (tds_cons (td_v10 (.int _)) (tds_cons (td_v11 hvr) tds_nil))))) (by exact Nat.le_of_ble_eq_true rfl)) (Same.refl _) fun v H7 s7 hv => ?_)
   have k7 := k6.trans (Kp.of s7)
   refine TD.use (σ := [some (.ref p),some (.ref a),some (.ref ch),some vl,some (.int pk),some (.int mo),some (.int (k : Int)),some w1,some (.int lo),some (.int hi),some (.int dr),some vr,o12,none,none,none,none,o17,some v]) (te := tTup _) (td_tup (tds_cons (td_cat (td_cat (td_to (k := k) (td_v2 (hH.kp k7)) (tpo_i (td_v6 (.int _)))) (td_tup (tds_cons (td_v18 hv) tds_nil) (by exact Nat.le_of_ble_eq_true rfl)) (by simp only [List.length_append,List.length_map,List.length_take,List.length_drop,List.length_cons,List.length_nil]; omega)) (td_from (k := (k + 1)) (td_v2 (hH.kp k7)) (tpo_i (td_add1 (td_v6 (.int _))))) (by simp only [List.length_append,List.length_map,List.length_take,List.length_drop,List.length_cons,List.length_nil]; omega)) (tds_cons (td_v3 (hL.kp k7)) tds_nil)) (by exact Nat.le_of_ble_eq_true rfl)) (Same.refl _) fun y H8 s8 hy => ?_
   have gd' : GoodHouse ⟨h.name,lo,hi,dr,rs⟩ := ⟨gd.name,hhi,hdr,by show rs.length <= 25; omega,grs⟩
   have enm : namesH ⟨h.name,lo,hi,dr,rs⟩ = namesH h := ers
   obtain ⟨gp,en⟩ := good_put gh hk (h' := ⟨h.name,lo,hi,dr,rs⟩) rfl enm gd'
   refine q y (putH hs k ⟨h.name,lo,hi,dr,rs⟩) ls H8 ?_ gp (letters_put gl hk rfl enm) (putH_map hk rfl) (fun h2 hh2 => put_narrow nw nhi h2 hh2) (pack_same hp6z (s7.trans s8)) (SB6.trans (SameB.of (s7.trans s8)))
   have e : housesDa (putH hs k ⟨h.name,lo,hi,dr,rs⟩) = .tup ((hs.map houseDa).take k ++ [.tup [.str h.name,.int lo,.int hi,.int dr,.tup (rs.map runDa)]] ++ (hs.map houseDa).drop (k + 1)) := by
     unfold housesDa putH
     rw [List.map_append,List.map_append,List.map_take,List.map_drop]
     rfl
   rw [e]
   exact hy
end
end K04
namespace K04
open PySem L2 K02
section
variable {P : Program} {w : World} {K : PySem.W.Frag} {mg : Str -> Option Value} {base : Heap} {t8 : Tok}
theorem sc_parts : FnScope ["thing","many"] ["thing","many"] (defScope sParts) := ⟨rfl,rfl,rfl,by decide +kernel,rfl,by decide +kernel,by decide +kernel⟩
theorem ok_parts {f : Addr} {fd : FuncData} (F : Fun K "has_parts" "has_parts" sParts f fd) (T : Txt mg t8) : FnOk P w K mg base CX0 1 f fd ["thing","many"] spParts := by
 refine F.ok sc_parts (fun vs H Q E h => ?_) (fun cdv A outer s H vs Q E hr h => ?_)
 . obtain ⟨x,d,n,rfl,_⟩ := h
   rfl
 . obtain ⟨x,d,n,rfl,hd,q⟩ := h
   obtain ⟨_,⟨T',ty,kt⟩,_⟩ := hd.kind (K := K)
   refine ⟨_,(pss_one (ps_ret (peAnd (pe_callB call_isi rfl T.isi PyProof.Rows.boot_isinstance (pa_cons (pV 0) (pa_cons (pe_bltn (v := .ty "tuple") rfl T.tuple PyProof.Rows.boot_tuple rfl) pa_nil))) (pe_one (pe_cmpR oEq (pe_callB call_len_seq rfl T.len PySem.boot_len (pa_cons (pV 0) pa_nil)) (pV 1) (nomark _)))))),?_⟩
   refine ⟨_,_,_,_,rfl,ty,kt,?_⟩
   cases d with
   | tup xs =>
     obtain ⟨a,vs,ez1,ha,l60,r⟩ := hd.tupE
     subst ez1
     refine ⟨a,vs,rfl,.inr (SqT.of ha),?_⟩
     show Q (.bl (decide ((vs.length : Int) = (n : Int)))) H
     have e : decide ((vs.length : Int) = (n : Int)) = decide (xs.length = n) := by
       rw [r.len,Bool.eq_iff_iff,decide_eq_true_iff,decide_eq_true_iff]; omega
     rw [e]; exact q
   | _ => exact q
theorem sc_named : FnScope ["thing"] ["thing"] (defScope sNamed) := ⟨rfl,rfl,rfl,by decide +kernel,rfl,by decide +kernel,by decide +kernel⟩
theorem ok_named {f F_z2 F_z1 F_z0 : Addr} {fd D_z2 D_z1 D_z0 : FuncData} (F : Fun K "is_named_number" "is_named_number" sNamed f fd)
   (G_z2 : FnOk P w K mg base CX0 1 F_z2 D_z2 ["thing","many"] spParts) (M_z2 : mg "has_parts" = some (.ref F_z2)) (N_z2 : PySem.W.keepIn K (.ref F_z2) = true) (B_z2 : Binds K D_z2 ["thing","many"] [])
   (G_z1 : FnOk P w K mg base CX0 1 F_z1 D_z1 ["thing"] (spName K)) (M_z1 : mg "is_name" = some (.ref F_z1)) (N_z1 : PySem.W.keepIn K (.ref F_z1) = true) (B_z1 : Binds K D_z1 ["thing"] [])
   (G_z0 : FnOk P w K mg base CX0 1 F_z0 D_z0 ["thing"] (spWhole K)) (M_z0 : mg "is_whole" = some (.ref F_z0)) (N_z0 : PySem.W.keepIn K (.ref F_z0) = true) (B_z0 : Binds K D_z0 ["thing"] []) : FnOk P w K mg base CX0 2 f fd ["thing"] (spD namedD) := by
 refine F.ok sc_named (fun vs H Q E h => ?_) (fun cdv A outer s H vs Q E hr h => ?_)
 . obtain ⟨x,d,rfl,_⟩ := h
   rfl
 . obtain ⟨x,d,rfl,hd,q⟩ := h
   refine ⟨_,(pss_one (ps_ret (peAnd (pe_call G_z2 hr rfl M_z2 N_z2 B_z2 .nil pass0 (pa_cons (pV 0) (pa_cons pe_int pa_nil))) (peAnd (pe_call G_z1 hr rfl M_z1 N_z1 B_z1 .nil pass0 (pa_cons (pe_ix iIxT (pV 0) pe_int (fun _ _ => rfl)) pa_nil)) (pe_one (pe_call G_z0 hr rfl M_z0 N_z0 B_z0 .nil pass0 (pa_cons (pe_ix iIxT (pV 0) pe_int (fun _ _ => rfl)) pa_nil))))))),?_⟩
   refine ⟨x,d,2,rfl,hd,?_⟩
   have no : ∀ d',partsD d' 2 = false -> namedD d' = false := fun d' h => by
     cases d' with
     | tup xs =>
       match xs,h with
       | [],_ => rfl
       | [_],_ => rfl
       | [_,_],h => cases h
       | _ :: _ :: _ :: _,_ => rfl
     | _ => rfl
   cases e : partsD d 2 with
   | false =>
     have z := q H (Same.refl H)
     rw [no d e] at z
     exact z
   | true =>
     cases d with
     | tup xs =>
       obtain ⟨a,vs,ez4,ha,l60,r⟩ := hd.tupE
       subst ez4
       obtain ⟨y,z,rfl⟩ := len2 (of_decide_eq_true e)
       obtain ⟨v1,v2,ez5,h1,h2⟩ := r.two
       subst ez5
       refine ixTup (SqT.of ha) (i := 0) (v := v1) (by rfl) ?_
       obtain ⟨th,_,_,n1⟩ := h1.kind (K := K)
       refine ⟨v1,rfl,th,fun H1 s1 => ?_⟩
       rw [n1]
       cases e2 : isND y with
       | false =>
         have w := q H1 s1
         simp only [namedD,e2,Bool.false_and] at w
         exact w
       | true =>
         refine ixTup (SqT.of (s1 _ _ ha)) (i := 1) (v := v2) (by rfl) ?_
         obtain ⟨th2,_,w2,_⟩ := (h2.same s1).kind (K := K)
         refine ⟨v2,rfl,th2,?_⟩
         rw [w2]
         have w := q H1 s1
         simp only [namedD,e2,Bool.true_and] at w
         exact w
     | _ => cases e
theorem sc_rowsin : FnScope ["house"] ["house"] (defScope sRowsIn) := ⟨rfl,rfl,rfl,by decide +kernel,rfl,by decide +kernel,by decide +kernel⟩
theorem ok_rowsin {f : Addr} {fd : FuncData} (F : Fun K "rows_in" "rows_in" sRowsIn f fd) : FnOk P w K mg base CX0 1 f fd ["house"] spRowsIn := by
 refine F.ok sc_rowsin (fun vs H Q E h => ?_) (fun cdv A outer s H vs Q E hr h => ?_)
 . obtain ⟨x,hh,rfl,_⟩ := h
   rfl
 . obtain ⟨x,hh,rfl,⟨a,b,rfl,ha,c,vs,rfl,hc,pr⟩,gd,q⟩ := h
   have sl0 : sizeLine = 16777216 := sizeLine_eq
   refine ⟨_,(pss_one (ps_ret (pe_comp2 (scX := defScope sRowsIn) (own := ["run","row"]) (cap := []) (ix := []) rfl rfl ⟨rfl,by decide +kernel,by decide +kernel,by decide +kernel,rfl,by decide +kernel⟩ (pi_tup (pe_ix iIxT (pV 0) pe_int (fun _ _ => rfl))) (fun b => (pg_name (i := 0) (show (["run","row"]:List Str).Nodup by decide +kernel) rfl (Or.inl rfl))) (fun b => pif_nil) (fun b => pi_tup (pV 0)) (fun b => (pg_name (i := 1) (show (["run","row"]:List Str).Nodup by decide +kernel) rfl (Or.inl rfl))) (fun b => pif_nil) (fun b => pV 1)))),?_⟩
   refine ixTup (SqT.of ha) (i := 4) (v := .ref c) (by rfl) ?_
   refine ⟨c,rfl,⟨_,SqT.of hc⟩,fun D hD => ⟨WS vs.length (fun i σ H' => ∃ o1 o2 zs,σ = [o1,o2] /\ Grow H H' D zs /\ Paired (RowAt H) zs (hh.runs.take i).flatten),ws0 ⟨none,none,[],rfl,Grow.start hD,.nil⟩,fun b => ct_tup (xs := vs) _ (fun i σ H' _ hz1 => by obtain ⟨_,_,_,_,G,_⟩ := hz1; exact SqT.of (G.same _ _ hc)) (fun σ H' hz2 => ?_) (fun i x σ H' hx hi hz3 => ?_)⟩⟩
   . obtain ⟨_,_,zs,_,G,pz⟩ := hz2
     refine q D zs H' hD G.at' G.same ?_
     rw [pr.length,List.take_length] at pz
     exact paired_mono (fun _ _ z => z.ts G.same.tups) pz
   . obtain ⟨o1,o2,zs,e,G,pz⟩ := hz3
     subst e
     obtain ⟨r,hr',c2,ws,ez16,hc2,pr2⟩ := paired_getL pr hx
     subst ez16
     have gr := gd.runs r (List.mem_of_getElem? hr')
     refine ⟨c2,rfl,⟨_,SqT.of (G.same _ _ hc2)⟩,WS ws.length (fun j σ H'' => ∃ o2 zs',σ = [some (.ref c2),o2] /\ Grow H H'' D zs' /\ Paired (RowAt H) zs' ((hh.runs.take i).flatten ++ r.take j)),ws0 ⟨o2,zs,rfl,G,by rw [List.take_zero,List.append_nil]; exact pz⟩,ct_tup (xs := ws) _ (fun j σ H'' _ hz1 => by obtain ⟨_,_,_,G',_⟩ := hz1; exact SqT.of (G'.same _ _ hc2)) (fun σ H'' ⟨o2',zs',e',G',pz'⟩ => nxs hi ⟨_,_,zs',e',G',?_⟩) (fun j y σ H'' hy hj hz3 => ?_)⟩
     . rw [pr2.length,List.take_length] at pz'
       rw [List.take_add_one,hr',List.flatten_append]
       simpa using pz'
     . obtain ⟨o2',zs',e',G',pz'⟩ := hz3
       subst e'
       obtain ⟨rr,hrr,ra⟩ := paired_getL pr2 hy
       have hl := pz'.length
       have hl1 := flat_len (l := hh.runs.take i) (n := 25) fun q hq => (gd.runs q (List.mem_of_mem_take hq)).few
       have hl2 : (hh.runs.take i).length <= 25 := Nat.le_trans (List.length_take_le' i hh.runs) gd.few
       have hl3 : (hh.runs.take i).length * 25 <= 25 * 25 := Nat.mul_le_mul_right 25 hl2
       have hl4 := gr.few
       rw [List.length_append,List.length_take] at hl
       refine ⟨zs',G'.at',by omega,nxs hj ⟨_,zs' ++ [y],rfl,G'.put hD y,?_⟩⟩
       rw [List.take_add_one,hrr,<- List.append_assoc]
       exact paired_app pz' (.cons ra .nil)
theorem sc_rownames : FnScope ["houses"] ["houses"] (defScope sRowNames) := ⟨rfl,rfl,rfl,by decide +kernel,rfl,by decide +kernel,by decide +kernel⟩
theorem ok_rownames {f F_r : Addr} {fd D_r : FuncData} (F : Fun K "row_names" "row_names" sRowNames f fd)
   (G_r : FnOk P w K mg base CX0 1 F_r D_r ["house"] spRowsIn) (M_r : mg "rows_in" = some (.ref F_r)) (N_r : PySem.W.keepIn K (.ref F_r) = true) (B_r : Binds K D_r ["house"] []) : FnOk P w K mg base CX0 2 f fd ["houses"] spRowNames := by
 refine F.ok sc_rownames (fun vs H Q E h => ?_) (fun cdv A outer s H vs Q E hr h => ?_)
 . obtain ⟨x,hs,rfl,_⟩ := h
   rfl
 . obtain ⟨x,hs,rfl,⟨c,vs,rfl,hc,pr⟩,h6,gd,q⟩ := h
   have sl0 : sizeLine = 16777216 := sizeLine_eq
   refine ⟨_,(pss_one (ps_ret (pe_comp2 (scX := defScope sRowNames) (own := ["house","name","reading"]) (cap := []) (ix := []) rfl rfl ⟨rfl,by decide +kernel,by decide +kernel,by decide +kernel,rfl,by decide +kernel⟩ (pi_tup (pV 0)) (fun b => (pg_name (i := 0) (show (["house","name","reading"]:List Str).Nodup by decide +kernel) rfl (Or.inl rfl))) (fun b => pif_nil) (fun b => pi_list (pe_call G_r hr rfl M_r N_r B_r .nil pass0 (pa_cons (pV 0) pa_nil))) (fun b => (pg_tup rfl (pgs_cons (pg_name (i := 1) (show (["house","name","reading"]:List Str).Nodup by decide +kernel) rfl (Or.inl rfl)) (pgs_cons (pg_name (i := 2) (show (["house","name","reading"]:List Str).Nodup by decide +kernel) rfl (Or.inl rfl)) pgs_nil)))) (fun b => pif_nil) (fun b => pV 1)))),?_⟩
   refine ⟨c,rfl,⟨_,SqT.of hc⟩,fun D hD => ⟨WS vs.length (fun i σ H' => ∃ o1 o2 o3,σ = [o1,o2,o3] /\ Grow H H' D (((hs.take i).flatMap namesH).map V.str)),ws0 ⟨none,none,none,rfl,Grow.start hD⟩,fun b => ct_tup (xs := vs) _ (fun i σ H' _ hz4 => by obtain ⟨_,_,_,_,G⟩ := hz4; exact SqT.of (G.same _ _ hc)) (fun σ H' hz5 => ?_) (fun i x σ H' hx hi hz6 => ?_)⟩⟩
   . obtain ⟨_,_,_,_,G⟩ := hz5
     refine q D H' hD ?_ G.same
     have e := G.at'
     rw [pr.length,List.take_length] at e
     exact e
   . obtain ⟨o1,o2,o3,e,G⟩ := hz6
     subst e
     obtain ⟨h,hh',ha⟩ := paired_getL pr hx
     have gh := gd h (List.mem_of_getElem? hh')
     refine ⟨x,h,rfl,ha.ts G.same.tups,gh,fun l zs H2 hl el s2 pz => ?_⟩
     have nlD : l ≠ D := fun z => by subst z; rw [G.at'] at hl; cases hl
     have G2 := G.more s2
     refine ⟨l,rfl,⟨_,SqL.of el⟩,WS zs.length (fun j σ H'' => ∃ o2 o3,σ = [some x,o2,o3] /\ Grow H H'' D (((hs.take i).flatMap namesH ++ ((rowsH h).take j).map Prod.fst).map V.str) /\ H'' l = some (.lst zs) /\ Tups H2 H''),ws0 ⟨o2,o3,rfl,by simpa using G2,el,Tups.refl _⟩,ct_list (xs := zs) _ (fun j σ H'' _ hz4 => by obtain ⟨_,_,_,_,e',_⟩ := hz4; exact SqL.of e') (fun σ H'' ⟨o2',o3',e',G',_,_⟩ => nxs hi ⟨_,_,_,e',?_⟩) (fun j y σ H'' hy hj hz6 => ?_)⟩
     . rw [pz.length,List.take_length] at G'
       rw [List.take_add_one,hh',List.flatMap_append]
       simpa [namesH] using G'
     . obtain ⟨o2',o3',e',G',el',t'⟩ := hz6
       subst e'
       obtain ⟨rr,hrr,ra⟩ := paired_getL pz hy
       obtain ⟨ra1,rfl,ra2⟩ := ra.ts t'
       refine ⟨ra1,_,rfl,SqT.of ra2,rfl,_,_,rfl,_,_,rfl,rfl,?_⟩
       have hl1 : ((hs.take i).flatMap namesH).length <= (hs.take i).length * 625 := by
         rw [List.flatMap_def]
         have z := flat_len (l := (hs.take i).map namesH) (n := 625) fun q hq => by
           obtain ⟨k,hk,rfl⟩ := List.mem_map.mp hq
           have z1 := (gd k (List.mem_of_mem_take hk)).len
           show ((rowsH k).map Prod.fst).length <= 625
           rw [List.length_map]; exact z1
         rw [List.length_map] at z
         exact z
       have hl2 : (hs.take i).length <= 6 := Nat.le_trans (List.length_take_le' i hs) h6
       have hl3 : (hs.take i).length * 625 <= 6 * 625 := Nat.mul_le_mul_right 625 hl2
       have hl4 := gh.len
       refine ⟨_,G'.at',by rw [List.length_map,List.length_append,List.length_map,List.length_take]; omega,nxs hj ⟨_,_,rfl,?_,?_,t'.put G'.at' (fun _ z => nomatch z)⟩⟩
       . have z := G'.put hD (V.str rr.1)
         rw [List.take_add_one,hrr]
         simpa using z
       . rw [upd_ne nlD]; exact el'
end
end K04
namespace K04
open PySem L2 K02
def MomAt (H : Hp) (a : Addr) (m : Str -> Int) (ns : List Str) : Prop := ∃ kvs : List (Key × V),Rd H a (.dK kvs) /\ ∀ n ∈ ns,valV kvs (.inr n) = some (.int (m n))
theorem MomAt.same {H H' : Hp} {a : Addr} {m : Str -> Int} {ns : List Str} (h : MomAt H a m ns) (s : SameF H H') : MomAt H' a m ns := let ⟨k,r,v⟩ := h; ⟨k,s.rd r,v⟩
theorem MomAt.part {H : Hp} {a : Addr} {m : Str -> Int} {ns ms : List Str} (h : MomAt H a m ns) (s : ∀ n ∈ ms,n ∈ ns) : MomAt H a m ms := let ⟨k,r,v⟩ := h; ⟨k,r,fun n hn => v n (s n hn)⟩
theorem MomAt.get {H : Hp} {a : Addr} {m : Str -> Int} {ns : List Str} {n : Str} (h : MomAt H a m ns) (hn : n ∈ ns) : DGet H a (.str n) (some (.int (m n))) := by
 obtain ⟨k,r,v⟩ := h
 exact .inl ⟨k,.inr n,r,rfl,(v n hn).symm⟩
def offs (rs : List Row) (m : Str -> Int) : List Int := rs.map fun r => r.2 - m r.1
def driftB (rs : List Row) (d : Int) (m : Str -> Int) : Bool := decide (∀ a ∈ offs rs m,∀ b ∈ offs rs m,a - b <= d)
def rowB (h : House) (m : Str -> Int) (r : Row) : Bool := decide (h.low <= r.2 - m r.1) && decide (r.2 - m r.1 <= h.high)
def nextB (m : Str -> Int) (p : Str × Str) : Bool := decide (1 <= m p.2 - m p.1)
def keepH (h : House) (m : Str -> Int) : Bool := (rowsH h).all (rowB h m) && (((namesH h).zip ((namesH h).drop 1)).all (nextB m) && h.runs.all fun r => driftB r h.drift m)
def keepL (l : Letter) (m : Str -> Int) : Bool := decide (l.2.1 <= m l.1.2 - m l.1.1) && (match l.2.2 with | none => true | some z => decide (m l.1.2 - m l.1.1 <= z))
def placB (hs : List House) (ls : List Letter) (m : Str -> Int) : Bool := hs.all (fun h => keepH h m) && ls.all fun l => keepL l m
def spNeigh : Sp := fun vs H Q _ => ∃ (x : V) (h : House),vs = [x] /\ HouseAt H x h /\ GoodHouse h /\ ∀ (S : Addr) (P : List (Addr × V × V)) (H' : Hp),H S = none -> Same H H' -> P.map (·.2) = ((namesH h).map V.str).zip (((namesH h).drop 1).map V.str) -> H' S = some (.lst (P.map fun q => .ref q.1)) -> (∀ q ∈ P,H' q.1 = some (.tup [q.2.1,q.2.2])) -> Q (.ref S) H'
def spRowsOf : Sp := fun vs H Q _ => ∃ (x : V) (hs : List House) (ls : List Letter),vs = [x] /\ LedgerAt H x hs ls /\ GoodHouses hs /\ ∀ (p : Addr) (ss : List Str) (H' : Hp),H p = none -> H' p = some (.tup (ss.map V.str)) -> Same H H' -> ss.Perm (namesOf hs) -> PyProof.Rows.sortedS ss = true -> Q (.ref p) H'
def spKDrift : Sp := fun vs H Q _ => ∃ (x : V) (rs : List Row) (d : Int) (a : Addr) (m : Str -> Int),vs = [x,.int d,.ref a] /\ RunAt H x rs /\ GoodRun rs /\ MomAt H a m (rs.map Prod.fst) /\ ∀ H',Same H H' -> Q (.bl (driftB rs d m)) H'
def spKHouse : Sp := fun vs H Q _ => ∃ (x : V) (h : House) (a : Addr) (m : Str -> Int),vs = [x,.ref a] /\ HouseAt H x h /\ GoodHouse h /\ MomAt H a m (namesH h) /\ ∀ H',Same H H' -> Q (.bl (keepH h m)) H'
def spKLetter : Sp := fun vs H Q _ => ∃ (x : V) (l : Letter) (a : Addr) (m : Str -> Int),vs = [x,.ref a] /\ LetterAt H x l /\ MomAt H a m [l.1.1,l.1.2] /\ ∀ H',Same H H' -> Q (.bl (keepL l m)) H'
theorem cut1 (xs : List V) : cutV xs (some 1) none = xs.drop 1 := by
 unfold cutV
 rw [HT.sIx_none,show (some 1 : Option Int) = some ((1 : Nat) : Int) from rfl,HT.sIx_nat]
 rcases Nat.lt_or_ge 0 xs.length with z | z
 . rw [Nat.min_eq_left z,List.take_of_length_le (by rw [List.length_drop]; omega)]
 . have : xs = [] := List.eq_nil_of_length_eq_zero (by omega)
   subst this; rfl
section
variable {H1 : Hp} {D : Addr} {σ0 : St} {g : BI -> TG} {te : BI -> TE} {End : Hp -> Prop}
theorem comp_mapL {K : PySem.W.Frag} {a : Addr} {xs : List V} {ys : List V} (hD : H1 D = none) (hT : H1 a = some (.lst xs)) (hz : xs.length <= sizeLine) (hl : ys.length = xs.length)
   (turn : ∀ (i : Nat) (x : V) (H' : Hp),xs[i]? = some x -> Same H1 H' -> ∀ b (R : VK),(∀ H'' y,ys[i]? = some y -> Same H' H'' -> R y H'') -> g b x σ0 H' fun σ2 H2 => te b σ2 H2 R)
   (fin : ∀ H',Same H1 H' -> H' D = some (.lst ys) -> End H') :
   ∃ W : Nat -> Nat -> Hp -> Prop,(∃ m,W 0 m (upd H1 D (.lst []))) /\ ∀ b,CTurn (Itl K a) (g b) (tYes) (aPut D (te b)) σ0 End W :=
 comp_list (xs := xs) (fun i H' => Grow H1 H' D (ys.take i)) (Grow.start hD) (fun i H' _ G => SqL.of (G.same _ _ hT)) (fun H' G => fin H' G.same (by have e := G.at'; rw [<- hl,List.take_length] at e; exact e)) (fun i x H' hx hi G b =>
   turn i x H' hx G.same b _ fun H'' y hy s => ⟨_,(G.more s).at',by rw [List.length_take]; omega,nx hi (by
     show Grow H1 _ D (ys.take (i + 1))
     rw [List.take_add_one,hy]
     exact (G.more s).put hD _)⟩)
end
theorem len_names {h : House} (g : GoodHouse h) : (namesH h).length <= 625 := by
 show ((rowsH h).map Prod.fst).length <= 625
 rw [List.length_map]; exact g.len
section
variable {P : Program} {w : World} {K : PySem.W.Frag} {mg : Str -> Option Value} {base : Heap} {t8 : Tok}
theorem sc_neigh : FnScope ["house","names"] ["house"] (defScope sNeigh) := ⟨rfl,rfl,rfl,by decide +kernel,rfl,by decide +kernel,by decide +kernel⟩
theorem ok_neigh {f F_r : Addr} {fd D_r : FuncData} (F : Fun K "neighbours_in" "neighbours_in" sNeigh f fd) (T : Txt mg t8)
   (G_r : FnOk P w K mg base CX0 1 F_r D_r ["house"] spRowsIn) (M_r : mg "rows_in" = some (.ref F_r)) (N_r : PySem.W.keepIn K (.ref F_r) = true) (B_r : Binds K D_r ["house"] []) : FnOk P w K mg base CX0 2 f fd ["house"] spNeigh := by
 refine F.ok sc_neigh (fun vs H Q E h => ?_) (fun cdv A outer s H vs Q E hr h => ?_)
 . obtain ⟨x,hh,rfl,_⟩ := h
   rfl
 . obtain ⟨x,hh,rfl,hx,gd,q⟩ := h
   have sl0 : sizeLine = 16777216 := sizeLine_eq
   refine ⟨_,(pss_cons (ps_setComp (i := 1) sc_neigh.nd rfl rfl (scX := defScope sNeigh) (own := ["name","reading"]) (cap := []) (ix := []) rfl rfl ⟨rfl,by decide +kernel,by decide +kernel,by decide +kernel,rfl,by decide +kernel⟩ (pi_list (pe_call G_r hr rfl M_r N_r B_r .nil pass0 (pa_cons (pV 0) pa_nil))) (fun b => (pg_tup rfl (pgs_cons (pg_name (i := 0) (show (["name","reading"]:List Str).Nodup by decide +kernel) rfl (Or.inl rfl)) (pgs_cons (pg_name (i := 1) (show (["name","reading"]:List Str).Nodup by decide +kernel) rfl (Or.inl rfl)) pgs_nil)))) (fun b => pif_nil) (fun b => (pV 0))) (pss_one (ps_ret (pe_listzip rfl rfl T.list rfl T.zip (pa_cons (pV 1) (pa_cons (pe_slice sl_list (pV 1) (poI pe_int) po_none) pa_nil)))))),?_⟩
   refine ⟨x,hh,rfl,hx,gd,fun l zs H1 hl el s1 pz => ?_⟩
   have lz := pz.length
   have ln := len_names gd
   have lr : (namesH hh).length = (rowsH hh).length := by show ((rowsH hh).map Prod.fst).length = _; rw [List.length_map]
   refine ⟨l,rfl,⟨_,SqL.of el⟩,fun D hD => comp_mapL (xs := zs) (ys := (namesH hh).map V.str) hD el (by omega) (by rw [List.length_map]; omega) (fun i y H2 hy s2 b R hR => ?_) (fun H2 s2 e2 => ?_)⟩
   . obtain ⟨rr,hrr,ra⟩ := paired_getL pz hy
     obtain ⟨a1,rfl,g1⟩ := ra.ts s2.tups
     refine ⟨a1,_,rfl,SqT.of g1,rfl,_,_,rfl,_,_,rfl,rfl,?_⟩
     exact hR H2 _ (by show ((rowsH hh).map Prod.fst |>.map V.str)[i]? = _; rw [List.getElem?_map,List.getElem?_map,hrr]; rfl) (Same.refl _)
   . refine ⟨D,(namesH hh).map V.str,rfl,SqL.of e2,fun p hp => ?_⟩
     rw [cut1,<- List.map_drop]
     have s3 : Same H2 (upd H2 p (.lst (((namesH hh).drop 1).map V.str))) := (Same.refl H2).upd hp
     refine ⟨D,p,_,_,rfl,SqL.of (s3 _ _ e2),SqL.of upd_same,fun S P H3 fS s4 eP eS eT => ?_⟩
     exact q S P H3 (((s1.trans s2).trans s3).free fS) (((s1.trans s2).trans s3).trans s4) eP eS eT
theorem sc_rowsof : FnScope ["ledger"] ["ledger"] (defScope sRowsOf) := ⟨rfl,rfl,rfl,by decide +kernel,rfl,by decide +kernel,by decide +kernel⟩
theorem ok_rowsof {f F_z6 : Addr} {fd D_z6 : FuncData} (F : Fun K "rows_of" "rows_of" sRowsOf f fd) (T : Txt mg t8)
   (G_z6 : FnOk P w K mg base CX0 2 F_z6 D_z6 ["houses"] spRowNames) (M_z6 : mg "row_names" = some (.ref F_z6)) (N_z6 : PySem.W.keepIn K (.ref F_z6) = true) (B_z6 : Binds K D_z6 ["houses"] []) : FnOk P w K mg base CX0 3 f fd ["ledger"] spRowsOf := by
 refine F.ok sc_rowsof (fun vs H Q E h => ?_) (fun cdv A outer s H vs Q E hr h => ?_)
 . obtain ⟨x,hs,ls,rfl,_⟩ := h
   rfl
 . obtain ⟨x,hs,ls,rfl,⟨a,y,z,rfl,ha,hH,hL⟩,gh,q⟩ := h
   refine ⟨_,(pss_one (ps_ret (pe_callTy call_tuple_of rfl T.tuple PyProof.Rows.boot_tuple (pa_cons (pe_callB call_sorted rfl T.sorted PyProof.Rows.boot_sorted (pa_cons (pe_call G_z6 hr rfl M_z6 N_z6 B_z6 .nil pass0 (pa_cons (pe_ix iIxT (pV 0) pe_int (fun _ _ => rfl)) pa_nil)) pa_nil)) pa_nil)))),?_⟩
   refine ixTup (SqT.of ha) (i := 0) (v := y) (by rfl) ?_
   refine ⟨y,hs,rfl,hH,gh.hi,gh.all,fun l H1 hl el s1 => ?_⟩
   have few := gh.few
   refine ⟨l,namesOf hs,rfl,SqL.of el,by omega,fun l2 ss hl2 hp hs' => ?_⟩
   have s2 := s1.upd (o := .lst (ss.map V.str)) hl2
   refine ⟨l2,ss.map V.str,rfl,.inl ⟨SqL.of upd_same,fun l3 hl3 => ?_⟩⟩
   exact q l3 ss _ (s2.free hl3) upd_same (s2.upd hl3) hp hs'
theorem sc_kdrift : FnScope ["run","drift","moments","offs"] ["run","drift","moments"] (defScope sKDrift) := ⟨rfl,rfl,rfl,by decide +kernel,rfl,by decide +kernel,by decide +kernel⟩
theorem ok_kdrift {f : Addr} {fd : FuncData} (F : Fun K "keeps_drift" "keeps_drift" sKDrift f fd) (T : Txt mg t8) : FnOk P w K mg base CX0 1 f fd ["run","drift","moments"] spKDrift := by
 refine F.ok sc_kdrift (fun vs H Q E h => ?_) (fun cdv A outer s H vs Q E hr h => ?_)
 . obtain ⟨x,rs,d,a,m,rfl,_⟩ := h
   rfl
 . obtain ⟨x,rs,d,a,m,rfl,⟨c,vs,rfl,hc,pr⟩,gr,mo,q⟩ := h
   have sl0 : sizeLine = 16777216 := sizeLine_eq
   refine ⟨_,(pss_cons (ps_setComp (i := 3) sc_kdrift.nd rfl rfl (scX := defScope sKDrift) (own := ["row","reading"]) (cap := ["moments"]) (ix := [2]) rfl rfl ⟨rfl,by decide +kernel,by decide +kernel,by decide +kernel,rfl,by decide +kernel⟩ (pi_tup (pV 0)) (fun b => (pg_tup rfl (pgs_cons (pg_name (i := 0) (show (["row","reading","moments"]:List Str).Nodup by decide +kernel) rfl (Or.inl rfl)) (pgs_cons (pg_name (i := 1) (show (["row","reading","moments"]:List Str).Nodup by decide +kernel) rfl (Or.inl rfl)) pgs_nil)))) (fun b => pif_nil) (fun b => (pe_op oSub (pV 1) (pe_dget (hu_of hr) (pV 2) (pV 0) (fun _ _ => rfl))))) (pss_one (ps_ret (pe_cmpR oLe (pe_op oSub (pe_callB (call_maxL rfl) rfl T.max PyProof.Rows.boot_max (pa_cons (pV 3) pa_nil)) (pe_callB (call_minL rfl) rfl T.min PyProof.Rows.boot_min (pa_cons (pV 3) pa_nil))) (pV 1) (nomark _))))),?_⟩
   have lz := pr.length
   have ln := gr.few
   refine ⟨c,rfl,⟨_,SqT.of hc⟩,fun D hD => comp_map (xs := vs) (ys := (offs rs m).map V.int) hD (SqT.of hc) (by omega) (by rw [List.length_map]; unfold offs; rw [List.length_map]; omega) (fun i y H2 hy s2 b R hR => ?_) (fun H2 s2 e2 => ?_)⟩
   . obtain ⟨rr,hrr,ra⟩ := paired_getL pr hy
     obtain ⟨a1,rfl,g1⟩ := ra.ts s2.tups
     refine ⟨a1,_,rfl,SqT.of g1,rfl,_,_,rfl,_,_,rfl,rfl,?_⟩
     refine ⟨a,_,rfl,(mo.same (SameF.of s2)).get (List.mem_map_of_mem (List.mem_of_getElem? hrr)),?_⟩
     exact hR H2 _ (by unfold offs; rw [List.getElem?_map,List.getElem?_map,hrr]; rfl) (Same.refl _)
   . have ne : offs rs m ≠ [] := by unfold offs; intro z; exact gr.ne (List.map_eq_nil_iff.mp z)
     refine ⟨D,offs rs m,rfl,SqL.of e2,ne,fun mx hmx gmx => ?_⟩
     refine ⟨D,offs rs m,rfl,SqL.of e2,ne,fun mn hmn gmn => ?_⟩
     show Q (.bl (decide (mx - mn <= d))) H2
     have e : decide (mx - mn <= d) = driftB rs d m := by
       unfold driftB
       rw [Bool.eq_iff_iff,decide_eq_true_iff,decide_eq_true_iff]
       refine ⟨fun z u hu v hv => ?_,fun z => z mx hmx mn hmn⟩
       have := gmx u hu
       have := gmn v hv
       omega
     rw [e]
     exact q H2 s2
theorem sc_kletter : FnScope ["letter","moments","sent","taken","least","most","gap"] ["letter","moments"] (defScope sKLetter) := ⟨rfl,rfl,rfl,by decide +kernel,rfl,by decide +kernel,by decide +kernel⟩
theorem ok_kletter {f : Addr} {fd : FuncData} (F : Fun K "keeps_letter" "keeps_letter" sKLetter f fd) : FnOk P w K mg base CX0 1 f fd ["letter","moments"] spKLetter := by
 refine F.ok sc_kletter (fun vs H Q E h => ?_) (fun cdv A outer s H vs Q E hr h => ?_)
 . obtain ⟨x,l,a,m,rfl,_⟩ := h
   rfl
 . obtain ⟨x,l,a,m,rfl,⟨c,rfl,hc⟩,mo,q⟩ := h
   refine ⟨_,(pss_cons (ps_asg (pV 0) (pg_tup rfl (pgs_cons (pg_name (i := 2) sc_kletter.nd rfl (Or.inl rfl)) (pgs_cons (pg_name (i := 3) sc_kletter.nd rfl (Or.inl rfl)) (pgs_cons (pg_name (i := 4) sc_kletter.nd rfl (Or.inl rfl)) (pgs_cons (pg_name (i := 5) sc_kletter.nd rfl (Or.inl rfl)) pgs_nil)))))) (pss_cons (ps_set (i := 6) sc_kletter.nd rfl (Or.inl rfl) (pe_op oSub (pe_dget (hu_of hr) (pV 1) (pV 3) (fun _ _ => rfl)) (pe_dget (hu_of hr) (pV 1) (pV 2) (fun _ _ => rfl)))) (pss_one (ps_ret (peAnd (pe_cmpR oGe (pV 6) (pV 4) (nomark _)) (pe_one (peOr (pe_cmp (pc_isN (pV 5))) (pe_one (pe_cmpR oLe (pV 6) (pV 5) (nomark _)))))))))),?_⟩
   refine ⟨c,_,rfl,SqT.of hc,rfl,_,_,rfl,_,_,rfl,_,_,rfl,_,_,rfl,rfl,?_⟩
   refine ⟨a,.int (m l.1.2),rfl,mo.get (by simp),?_⟩
   refine ⟨a,.int (m l.1.1),rfl,mo.get (by simp),?_⟩
   have z := q H (Same.refl H)
   obtain ⟨⟨se,ta⟩,le,mst⟩ := l
   unfold keepL at z
   dsimp only at z
   show (if decide (le <= m ta - m se) = true then _ else Q (.bl false) H)
   cases e1 : decide (le <= m ta - m se) with
   | false => rw [e1] at z; exact z
   | true =>
     rw [e1] at z
     cases mst with
     | none => exact z
     | some y =>
       show Q (.bl (decide (m ta - m se <= y))) H
       simpa using z
theorem sc_khouse : FnScope ["house","moments","name","low","high","drift","runs"] ["house","moments"] (defScope sKHouse) := ⟨rfl,rfl,rfl,by decide +kernel,rfl,by decide +kernel,by decide +kernel⟩
theorem ok_khouse {f F_r F_z5 F_z9 : Addr} {fd D_r D_z5 D_z9 : FuncData} (F : Fun K "keeps_house" "keeps_house" sKHouse f fd) (T : Txt mg t8)
   (G_r : FnOk P w K mg base CX0 2 F_r D_r ["house"] spRowsIn) (M_r : mg "rows_in" = some (.ref F_r)) (N_r : PySem.W.keepIn K (.ref F_r) = true) (B_r : Binds K D_r ["house"] [])
   (G_z5 : FnOk P w K mg base CX0 2 F_z5 D_z5 ["house"] spNeigh) (M_z5 : mg "neighbours_in" = some (.ref F_z5)) (N_z5 : PySem.W.keepIn K (.ref F_z5) = true) (B_z5 : Binds K D_z5 ["house"] [])
   (G_z9 : FnOk P w K mg base CX0 2 F_z9 D_z9 ["run","drift","moments"] spKDrift) (M_z9 : mg "keeps_drift" = some (.ref F_z9)) (N_z9 : PySem.W.keepIn K (.ref F_z9) = true) (B_z9 : Binds K D_z9 ["run","drift","moments"] []) : FnOk P w K mg base CX0 3 f fd ["house","moments"] spKHouse := by
 refine F.ok sc_khouse (fun vs H Q E h => ?_) (fun cdv A outer s H vs Q E hr h => ?_)
 . obtain ⟨x,hh,a,m,rfl,_⟩ := h
   rfl
 . obtain ⟨x,hh,a,m,rfl,hx0,gd,mo,q⟩ := h
   obtain ⟨c,bb,rfl,hc,c5,vr,rfl,hc5,pr⟩ := id hx0
   have sl0 : sizeLine = 16777216 := sizeLine_eq
   refine ⟨_,(pss_cons (ps_asg (pV 0) (pg_tup rfl (pgs_cons (pg_name (i := 2) sc_khouse.nd rfl (Or.inl rfl)) (pgs_cons (pg_name (i := 3) sc_khouse.nd rfl (Or.inr rfl)) (pgs_cons (pg_name (i := 4) sc_khouse.nd rfl (Or.inr rfl)) (pgs_cons (pg_name (i := 5) sc_khouse.nd rfl (Or.inr rfl)) (pgs_cons (pg_name (i := 6) sc_khouse.nd rfl (Or.inl rfl)) pgs_nil))))))) (pss_cons (ps_if (pt_not (ptV (pe_callB (call_all rfl) rfl T.all PyProof.Rows.boot_all (pa_cons (pe_comp (scX := defScope sKHouse) (own := ["row","reading"]) (cap := ["high","low","moments"]) (ix := [4,3,1]) rfl rfl ⟨rfl,by decide +kernel,by decide +kernel,by decide +kernel,rfl,by decide +kernel⟩ (pi_list (pe_call G_r hr rfl M_r N_r B_r .nil pass0 (pa_cons (pV 0) pa_nil))) (fun b => (pg_tup rfl (pgs_cons (pg_name (i := 0) (show (["row","reading","high","low","moments"]:List Str).Nodup by decide +kernel) rfl (Or.inl rfl)) (pgs_cons (pg_name (i := 1) (show (["row","reading","high","low","moments"]:List Str).Nodup by decide +kernel) rfl (Or.inl rfl)) pgs_nil)))) (fun b => pif_nil) (fun b => (pe_chain oLe oLe (pV 3) (pe_op oSub (pV 1) (pe_dget (hu_of hr) (pV 4) (pV 0) (fun _ _ => rfl))) (pV 2)))) pa_nil)))) (pss_one (ps_ret pe_bl)) pss_nil) (pss_cons (ps_if (pt_not (ptV (pe_callB (call_all rfl) rfl T.all PyProof.Rows.boot_all (pa_cons (pe_comp (scX := defScope sKHouse) (own := ["row","later"]) (cap := ["moments"]) (ix := [1]) rfl rfl ⟨rfl,by decide +kernel,by decide +kernel,by decide +kernel,rfl,by decide +kernel⟩ (pi_list (pe_call G_z5 hr rfl M_z5 N_z5 B_z5 .nil pass0 (pa_cons (pV 0) pa_nil))) (fun b => (pg_tup rfl (pgs_cons (pg_name (i := 0) (show (["row","later","moments"]:List Str).Nodup by decide +kernel) rfl (Or.inl rfl)) (pgs_cons (pg_name (i := 1) (show (["row","later","moments"]:List Str).Nodup by decide +kernel) rfl (Or.inl rfl)) pgs_nil)))) (fun b => pif_nil) (fun b => (pe_cmpR oGe (pe_op oSub (pe_dget (hu_of hr) (pV 2) (pV 1) (fun _ _ => rfl)) (pe_dget (hu_of hr) (pV 2) (pV 0) (fun _ _ => rfl))) pe_int (nomark _)))) pa_nil)))) (pss_one (ps_ret pe_bl)) pss_nil) (pss_one (ps_ret (pe_callB (call_all rfl) rfl T.all PyProof.Rows.boot_all (pa_cons (pe_comp (scX := defScope sKHouse) (own := ["run"]) (cap := ["drift","moments"]) (ix := [5,1]) rfl rfl ⟨rfl,by decide +kernel,by decide +kernel,by decide +kernel,rfl,by decide +kernel⟩ (pi_tup (pV 6)) (fun b => (pg_name (i := 0) (show (["run","drift","moments"]:List Str).Nodup by decide +kernel) rfl (Or.inl rfl))) (fun b => pif_nil) (fun b => (pe_call G_z9 hr rfl M_z9 N_z9 B_z9 .nil pass0 (pa_cons (pV 0) (pa_cons (pV 1) (pa_cons (pV 2) pa_nil)))))) pa_nil))))))),?_⟩
   refine ⟨c,_,rfl,SqT.of hc,rfl,_,_,rfl,_,_,rfl,_,_,rfl,_,_,rfl,_,_,rfl,rfl,?_⟩
   have lnn := len_names gd
   have lrn : (namesH hh).length = (rowsH hh).length := by show ((rowsH hh).map Prod.fst).length = _; rw [List.length_map]
   refine ⟨.ref c,hh,rfl,hx0,gd,fun l zs H1 hl el s1 pz => ?_⟩
   have lz := pz.length
   refine ⟨l,rfl,⟨_,SqL.of el⟩,fun D hD => comp_mapL (xs := zs) (ys := ((rowsH hh).map (rowB hh m)).map V.bl) hD el (by omega) (by rw [List.length_map,List.length_map]; omega) (fun i y H2 hy s2 b R hR => ?_) (fun H2 s2 e2 => ?_)⟩
   . obtain ⟨rr,hrr,ra⟩ := paired_getL pz hy
     obtain ⟨a1,rfl,g1⟩ := ra.ts s2.tups
     refine ⟨a1,_,rfl,SqT.of g1,rfl,_,_,rfl,_,_,rfl,rfl,?_⟩
     refine ⟨a,.int (m rr.1),rfl,(mo.same (SameF.of (s1.trans s2))).get (List.mem_map_of_mem (List.mem_of_getElem? hrr)),?_⟩
     have w := hR H2 (.bl (rowB hh m rr)) (by rw [List.getElem?_map,List.getElem?_map,hrr]; rfl) (Same.refl _)
     refine ⟨decide (hh.low <= rr.2 - m rr.1),rfl,?_⟩
     unfold rowB at w
     cases e1 : decide (hh.low <= rr.2 - m rr.1) with
     | false => rw [e1] at w; exact w
     | true => rw [e1] at w; simp only [Bool.true_and] at w; exact w
   . refine ⟨D,(rowsH hh).map (rowB hh m),rfl,SqL.of e2,?_⟩
     have S2 : Same H H2 := s1.trans s2
     have e3 : ((rowsH hh).map (rowB hh m)).all id = (rowsH hh).all (rowB hh m) := by rw [List.all_map]; rfl
     rw [e3]
     cases k1 : (rowsH hh).all (rowB hh m) with
     | false =>
       have z := q H2 S2
       unfold keepH at z
       rw [k1] at z
       exact z
     | true =>
       refine ⟨.ref c,hh,rfl,hx0.ts S2.tups,gd,fun S P H3 fS s3 eP eS eT => ?_⟩
       have lP : P.length <= 625 := by
         have z := congrArg List.length eP
         rw [List.length_map,List.length_zip,List.length_map,List.length_map] at z
         omega
       refine ⟨S,rfl,⟨_,SqL.of eS⟩,fun D2 hD2 => comp_mapL (xs := P.map fun q => .ref q.1) (ys := ((((namesH hh).zip ((namesH hh).drop 1)).map (nextB m)).map V.bl)) hD2 eS (by rw [List.length_map]; omega) (by
         have z := congrArg List.length eP
         rw [List.length_map,List.length_zip,List.length_map,List.length_map] at z
         rw [List.length_map,List.length_map,List.length_zip,List.length_map]; omega) (fun i y H4 hy s4 b R hR => ?_) (fun H4 s4 e4 => ?_)⟩
       . rw [List.getElem?_map] at hy
         obtain ⟨pq,hpq,rfl⟩ := Option.map_eq_some_iff.mp hy
         have tq := s4 _ _ (eT pq (List.mem_of_getElem? hpq))
         have w1 : (P.map (·.2))[i]? = some pq.2 := by rw [List.getElem?_map,hpq]; rfl
         rw [eP,List.getElem?_zip_eq_some,List.getElem?_map,List.getElem?_map] at w1
         obtain ⟨w2,w3⟩ := w1
         obtain ⟨n1,en1,ez1⟩ := Option.map_eq_some_iff.mp w2
         obtain ⟨n2,en2,ez2⟩ := Option.map_eq_some_iff.mp w3
         rw [<- ez1,<- ez2] at tq
         have in1 : n1 ∈ namesH hh := List.mem_of_getElem? en1
         have in2 : n2 ∈ namesH hh := List.mem_of_mem_drop (List.mem_of_getElem? en2)
         have mo4 := mo.same (SameF.of ((S2.trans s3).trans s4))
         refine ⟨pq.1,_,rfl,SqT.of tq,rfl,_,_,rfl,_,_,rfl,rfl,?_⟩
         refine ⟨a,.int (m n2),rfl,mo4.get in2,?_⟩
         refine ⟨a,.int (m n1),rfl,mo4.get in1,?_⟩
         refine hR H4 _ ?_ (Same.refl _)
         have w4 : ((namesH hh).zip ((namesH hh).drop 1))[i]? = some (n1,n2) := by rw [List.getElem?_zip_eq_some]; exact ⟨en1,en2⟩
         rw [List.getElem?_map,List.getElem?_map,w4]
         rfl
       . refine ⟨D2,_,rfl,SqL.of e4,?_⟩
         have S4 : Same H H4 := (S2.trans s3).trans s4
         have e5 : (((namesH hh).zip ((namesH hh).drop 1)).map (nextB m)).all id = ((namesH hh).zip ((namesH hh).drop 1)).all (nextB m) := by rw [List.all_map]; rfl
         rw [e5]
         cases k2 : ((namesH hh).zip ((namesH hh).drop 1)).all (nextB m) with
         | false =>
           have z := q H4 S4
           unfold keepH at z
           rw [k1,k2] at z
           exact z
         | true =>
           have lr := pr.length
           have few := gd.few
           refine ⟨c5,rfl,⟨_,SqT.of (S4 _ _ hc5)⟩,fun D3 hD3 => comp_map (xs := vr) (ys := (hh.runs.map fun r => driftB r hh.drift m).map V.bl) hD3 (SqT.of (S4 _ _ hc5)) (by omega) (by rw [List.length_map,List.length_map]; omega) (fun i y H5 hy s5 b R hR => ?_) (fun H5 s5 e6 => ?_)⟩
           . obtain ⟨rs,hrs,rat⟩ := paired_getL pr hy
             refine ⟨y,rs,hh.drift,a,m,rfl,rat.ts (S4.trans s5).tups,gd.runs rs (List.mem_of_getElem? hrs),?_,fun H6 s6 => ?_⟩
             . refine (mo.same (SameF.of (S4.trans s5))).part fun n hn => ?_
               obtain ⟨r,hr1,rfl⟩ := List.mem_map.mp hn
               exact List.mem_map_of_mem (List.mem_flatten.mpr ⟨rs,List.mem_of_getElem? hrs,hr1⟩)
             . exact hR H6 _ (by rw [List.getElem?_map,List.getElem?_map,hrs]; rfl) s6
           . refine ⟨D3,_,rfl,SqL.of e6,?_⟩
             have z := q H5 (S4.trans s5)
             unfold keepH at z
             rw [k1,k2] at z
             have e7 : (hh.runs.map fun r => driftB r hh.drift m).all id = hh.runs.all fun r => driftB r hh.drift m := by rw [List.all_map]; rfl
             rw [e7]
             exact z
end
end K04
namespace K04
open PySem L2 K02
def strsD (ss : List Str) : PyData := .tuple (ss.map .str)
theorem strs_dp {K : PySem.W.Frag} {H : Hp} {a : Addr} {ss : List Str} (ha : H a = some (.tup (ss.map V.str))) : Dp K H (.ref a) (strsD ss) := by
 refine .tup (SqT.of ha) ?_
 clear ha
 induction ss with
 | nil => exact .nil
 | cons s ss ih => exact .cons (.str s) ih
theorem strs_shaped {ss : List Str} (g : ∀ s ∈ ss,Good s) : SeqAt.shaped (strsD ss) = true := by
 have h1 : PyData.canLayAll0 (ss.map .str) = true := by
   induction ss with
   | nil => rfl
   | cons s ss ih =>
     rw [List.map_cons]
     unfold PyData.canLayAll0
     rw [ih fun q hq => g q (List.mem_cons_of_mem _ hq),Bool.and_true]
     unfold PyData.canLay0
     exact (g s List.mem_cons_self).ok
 have h2 : PyData.depthAll (ss.map .str) = 0 := by
   clear g h1
   induction ss with
   | nil => rfl
   | cons s ss ih =>
     rw [List.map_cons]
     unfold PyData.depthAll
     rw [ih]
     simp [PyData.depth]
 unfold SeqAt.shaped strsD
 rw [Bool.and_eq_true]
 refine ⟨?_,?_⟩
 . unfold PyData.canLay0; exact h1
 . unfold PyData.depth; rw [h2]; rfl
theorem strs_eqv (ss : List Str) : PyData.eqv (strsD ss) (strsD ss) = true := by
 unfold strsD
 have h : PyData.eqvAll (ss.map .str) (ss.map .str) = true := by
   induction ss with
   | nil => simp [PyData.eqvAll]
   | cons s ss ih => simp [PyData.eqvAll,PyData.eqv,ih]
 simp [PyData.eqv,h]
theorem rising_all : ∀ (l : List Str) (p : Str),PyProof.Rows.risingS p l = true -> l.Pairwise (fun a b => slt b a = false) /\ ∀ x ∈ l,slt x p = false
 | [],p,_ => ⟨List.Pairwise.nil,fun x hx => by simp at hx⟩
 | y :: l,p,h => by
   have h' : (!PySem.Spec.ltCps y.cps.toList p.cps.toList && PyProof.Rows.risingS y l) = true := h
   obtain ⟨h1,h2⟩ := Bool.and_eq_true_iff.mp h'
   obtain ⟨p1,p2⟩ := rising_all l y h2
   have h3 : slt y p = false := by
     rw [PyProof.Rows.ltCps_eq] at h1
     simpa [slt] using h1
   have le : ∀ x,slt x y = false -> slt x p = false := fun x hx => by
     cases e : slt x p with
     | false => rfl
     | true =>
       rcases Classical.em (p = y) with z | z
       . rw [z,hx] at e; cases e
       . rcases slt_strict.tot p y z with w | w
         . have := slt_strict.trans _ _ _ e w
           rw [hx] at this; cases this
         . rw [h3] at w; cases w
   refine ⟨List.pairwise_cons.mpr ⟨p2,p1⟩,fun x hx => ?_⟩
   rcases List.mem_cons.mp hx with z | z
   . rw [z]; exact h3
   . exact le x (p2 x z)
theorem sorted_pw : ∀ (l : List Str),PyProof.Rows.sortedS l = true -> l.Pairwise (fun a b => slt b a = false)
 | [],_ => List.Pairwise.nil
 | x :: l,h => List.pairwise_cons.mpr ⟨(rising_all l x h).2,(rising_all l x h).1⟩
theorem sort_uniq {a b l : List Str} (pa : a.Perm l) (pb : b.Perm l) (sa : PyProof.Rows.sortedS a = true) (sb : PyProof.Rows.sortedS b = true) : a = b := by
 refine List.Perm.eq_of_pairwise (le := fun a b => slt b a = false) (fun x y _ _ h1 h2 => ?_) (sorted_pw a sa) (sorted_pw b sb) (pa.trans pb.symm)
 rcases Classical.em (x = y) with z | z
 . exact z
 . rcases slt_strict.tot x y z with w | w
   . rw [h2] at w; cases w
   . rw [h1] at w; cases w
def toldR (ss : List Str) (m : Str -> Int) : List Row := ss.map fun n => (n,m n)
def spEach : Sp := fun vs H Q _ => ∃ (x t : V) (hs : List House) (ls : List Letter) (ss : List Str) (m : Str -> Int),vs = [x,t] /\ LedgerAt H x hs ls /\ GoodHouses hs /\ RunAt H t (toldR ss m) /\ ss.Perm (namesOf hs) /\ PyProof.Rows.sortedS ss = true /\ ∀ H',Same H H' -> Q (.bl true) H'
def spPlacing : Sp := fun vs H Q _ => ∃ (x t : V) (hs : List House) (ls : List Letter) (ss : List Str) (m : Str -> Int),vs = [x,t] /\ LedgerAt H x hs ls /\ GoodHouses hs /\ GoodLetters hs ls /\ RunAt H t (toldR ss m) /\ ss.Perm (namesOf hs) /\ PyProof.Rows.sortedS ss = true /\ ∀ H',Same H H' -> Q (.bl (placB hs ls m)) H'
theorem names_good4 {hs : List House} (g : GoodHouses hs) {n : Str} (h : n ∈ namesOf hs) : Good n := by
 obtain ⟨k,hk,hn⟩ := List.mem_flatMap.mp h
 obtain ⟨r,hr,rfl⟩ := List.mem_map.mp hn
 obtain ⟨q,hq,hr2⟩ := List.mem_flatten.mp hr
 exact ((g.all k hk).runs q hq).names r hr2
theorem all_true {n : Nat} : (List.replicate n true).all id = true := by
 induction n with
 | zero => rfl
 | succ n ih => rw [List.replicate_succ,List.all_cons,ih]; rfl
def kvT (ss : List Str) (m : Str -> Int) : List (Key × V) := ss.map fun n => (.inr n,.int (m n))
theorem kvT_keys (ss : List Str) (m : Str -> Int) : (kvT ss m).map (·.1) = ss.map Sum.inr := by unfold kvT; rw [List.map_map]; rfl
theorem kvT_val {m : Str -> Int} : ∀ {ss : List Str} {n : Str},n ∈ ss -> valV (kvT ss m) (.inr n) = some (.int (m n))
 | s :: ss,n,h => by
   by_cases e : s = n
   . subst e; exact valV_pos rfl
   . rw [show kvT (s :: ss) m = (.inr s,.int (m s)) :: kvT ss m from rfl,valV_neg (fun z => e (Sum.inr.inj z))]
     exact kvT_val ((List.mem_cons.mp h).resolve_left fun z => e z.symm)
section
variable {P : Program} {w : World} {K : PySem.W.Frag} {mg : Str -> Option Value} {base : Heap} {t8 : Tok}
theorem sc_each : FnScope ["ledger","thing"] ["ledger","thing"] (defScope sEach) := ⟨rfl,rfl,rfl,by decide +kernel,rfl,by decide +kernel,by decide +kernel⟩
theorem ok_each {f F_z3 F_z7 : Addr} {fd D_z3 D_z7 : FuncData} (F : Fun K "names_each_row" "names_each_row" sEach f fd) (T : Txt mg t8)
   (G_z3 : FnOk P w K mg base CX0 3 F_z3 D_z3 ["thing"] (spD namedD)) (M_z3 : mg "is_named_number" = some (.ref F_z3)) (N_z3 : PySem.W.keepIn K (.ref F_z3) = true) (B_z3 : Binds K D_z3 ["thing"] [])
   (G_z7 : FnOk P w K mg base CX0 3 F_z7 D_z7 ["ledger"] spRowsOf) (M_z7 : mg "rows_of" = some (.ref F_z7)) (N_z7 : PySem.W.keepIn K (.ref F_z7) = true) (B_z7 : Binds K D_z7 ["ledger"] []) : FnOk P w K mg base CX0 4 f fd ["ledger","thing"] spEach := by
 refine F.ok sc_each (fun vs H Q E h => ?_) (fun cdv A outer s H vs Q E hr h => ?_)
 . obtain ⟨x,t,hs,ls,ss,m,rfl,_⟩ := h
   rfl
 . obtain ⟨x,t,hs,ls,ss,m,rfl,hx,gh,⟨c,vs,rfl,hc,pr⟩,pm,so,q⟩ := h
   have sl0 : sizeLine = 16777216 := sizeLine_eq
   have few := gh.few
   have lss : ss.length <= 24 := by rw [pm.length_eq]; exact few
   have lv : vs.length = ss.length := by have z := pr.length; unfold toldR at z; rw [List.length_map] at z; exact z
   have gss : ∀ s ∈ ss,Good s := fun s hs' => names_good4 gh (pm.mem_iff.mp hs')
   have hd : DaAt H (.ref c) (.tup ((toldR ss m).map rowDa)) := .tup hc (by omega) (paired_da pr fun v r hr' ra => ra.da (by
     obtain ⟨n,hn,rfl⟩ := List.mem_map.mp hr'
     exact gss n hn))
   obtain ⟨_,⟨T',ty,kt⟩,_⟩ := hd.kind (K := K)
   refine ⟨_,(pss_cons (ps_if (ptOr (pt_not (ptV (pe_callB call_isi rfl T.isi PyProof.Rows.boot_isinstance (pa_cons (pV 1) (pa_cons (pe_bltn (v := .ty "tuple") rfl T.tuple PyProof.Rows.boot_tuple rfl) pa_nil))))) (pw_or1 (pt_not (ptV (pe_callB (call_all rfl) rfl T.all PyProof.Rows.boot_all (pa_cons (pe_comp (scX := defScope sEach) (own := ["part"]) (cap := []) (ix := []) rfl rfl ⟨rfl,by decide +kernel,by decide +kernel,by decide +kernel,rfl,by decide +kernel⟩ (pi_tup (pV 1)) (fun b => (pg_name (i := 0) (show (["part"]:List Str).Nodup by decide +kernel) rfl (Or.inl rfl))) (fun b => pif_nil) (fun b => (pe_call G_z3 hr rfl M_z3 N_z3 B_z3 .nil pass0 (pa_cons (pV 0) pa_nil)))) pa_nil)))))) (pss_one (ps_ret pe_bl)) pss_nil) (pss_one (ps_ret (pe_cmpR (op_eqD hr.units) (pe_callTy call_tuple_of rfl T.tuple PyProof.Rows.boot_tuple (pa_cons (pe_comp (scX := defScope sEach) (own := ["name","moment"]) (cap := []) (ix := []) rfl rfl ⟨rfl,by decide +kernel,by decide +kernel,by decide +kernel,rfl,by decide +kernel⟩ (pi_tup (pV 1)) (fun b => (pg_tup rfl (pgs_cons (pg_name (i := 0) (show (["name","moment"]:List Str).Nodup by decide +kernel) rfl (Or.inl rfl)) (pgs_cons (pg_name (i := 1) (show (["name","moment"]:List Str).Nodup by decide +kernel) rfl (Or.inl rfl)) pgs_nil)))) (fun b => pif_nil) (fun b => (pV 0))) pa_nil)) (pe_call G_z7 hr rfl M_z7 N_z7 B_z7 .nil pass0 (pa_cons (pV 0) pa_nil)) (nomark _))))),?_⟩
   refine ⟨_,_,_,_,rfl,ty,kt,?_⟩
   refine ⟨c,rfl,⟨_,SqT.of hc⟩,fun D hD => comp_map (xs := vs) (ys := (List.replicate ss.length true).map V.bl) hD (SqT.of hc) (by omega) (by rw [List.length_map,List.length_replicate]; omega) (fun i y H2 hy s2 b R hR => ?_) (fun H2 s2 e2 => ?_)⟩
   . obtain ⟨rr,hrr,ra⟩ := paired_getL pr hy
     have gr : Good rr.1 := by
       obtain ⟨n,hn,rfl⟩ := List.mem_map.mp (List.mem_of_getElem? hrr)
       exact gss n hn
     refine ⟨y,rowDa rr,rfl,(ra.da gr).same s2,fun H3 s3 => ?_⟩
     rw [named_da gr]
     have li : i < ss.length := by
       have z := (List.getElem?_eq_some_iff.mp hy).1
       omega
     exact hR H3 _ (by rw [List.getElem?_map,List.getElem?_replicate,if_pos li]; rfl) s3
   . refine ⟨D,_,rfl,SqL.of e2,?_⟩
     rw [all_true]
     refine ⟨c,rfl,⟨_,SqT.of (s2 _ _ hc)⟩,fun D2 hD2 => comp_map (xs := vs) (ys := ss.map V.str) hD2 (SqT.of (s2 _ _ hc)) (by omega) (by rw [List.length_map]; omega) (fun i y H3 hy s3 b R hR => ?_) (fun H3 s3 e3 => ?_)⟩
     . obtain ⟨rr,hrr,ra⟩ := paired_getL pr hy
       obtain ⟨a1,rfl,g1⟩ := ra.ts (s2.trans s3).tups
       refine ⟨a1,_,rfl,SqT.of g1,rfl,_,_,rfl,_,_,rfl,rfl,?_⟩
       unfold toldR at hrr
       rw [List.getElem?_map] at hrr
       obtain ⟨n,hn,rfl⟩ := Option.map_eq_some_iff.mp hrr
       exact hR H3 _ (by rw [List.getElem?_map,hn]; rfl) (Same.refl _)
     . refine ⟨D2,ss.map V.str,rfl,.inl ⟨SqL.of e3,fun l3 hl3 => ?_⟩⟩
       have s4 : Same H (upd H3 l3 (.tup (ss.map V.str))) := ((s2.trans s3)).upd hl3
       refine ⟨x,hs,ls,rfl,hx.ts s4.tups,gh,fun p ss' H5 fp ep s5 pm' so' => ?_⟩
       have e1 : ss = ss' := sort_uniq pm pm' so so'
       subst e1
       refine ⟨strsD ss,strsD ss,strs_dp (s5 _ _ upd_same),strs_dp ep,strs_shaped gss,strs_shaped gss,?_⟩
       rw [strs_eqv]
       exact q H5 (s4.trans s5)
theorem sc_placing : FnScope ["ledger","thing","houses","letters","moments"] ["ledger","thing"] (defScope sPlacing) := ⟨rfl,rfl,rfl,by decide +kernel,rfl,by decide +kernel,by decide +kernel⟩
theorem ok_placing {f F_z8 F_z10 F_z11 : Addr} {fd D_z8 D_z10 D_z11 : FuncData} (F : Fun K "is_placing" "is_placing" sPlacing f fd) (T : Txt mg t8)
   (G_z8 : FnOk P w K mg base CX0 4 F_z8 D_z8 ["ledger","thing"] spEach) (M_z8 : mg "names_each_row" = some (.ref F_z8)) (N_z8 : PySem.W.keepIn K (.ref F_z8) = true) (B_z8 : Binds K D_z8 ["ledger","thing"] [])
   (G_z10 : FnOk P w K mg base CX0 4 F_z10 D_z10 ["house","moments"] spKHouse) (M_z10 : mg "keeps_house" = some (.ref F_z10)) (N_z10 : PySem.W.keepIn K (.ref F_z10) = true) (B_z10 : Binds K D_z10 ["house","moments"] [])
   (G_z11 : FnOk P w K mg base CX0 4 F_z11 D_z11 ["letter","moments"] spKLetter) (M_z11 : mg "keeps_letter" = some (.ref F_z11)) (N_z11 : PySem.W.keepIn K (.ref F_z11) = true) (B_z11 : Binds K D_z11 ["letter","moments"] []) : FnOk P w K mg base CX0 5 f fd ["ledger","thing"] spPlacing := by
 refine F.ok sc_placing (fun vs H Q E h => ?_) (fun cdv A outer s H vs Q E hr h => ?_)
 . obtain ⟨x,t,hs,ls,ss,m,rfl,_⟩ := h
   rfl
 . obtain ⟨x,t,hs,ls,ss,m,rfl,hx,gh,gl,ht,pm,so,q⟩ := h
   have sl0 : sizeLine = 16777216 := sizeLine_eq
   have few := gh.few
   have lss : ss.length <= 24 := by rw [pm.length_eq]; exact few
   have nds : ss.Nodup := pm.nodup_iff.mpr gh.rows
   refine ⟨_,(pss_cons (ps_if (pt_not (ptV (pe_call G_z8 hr rfl M_z8 N_z8 B_z8 .nil pass0 (pa_cons (pV 0) (pa_cons (pV 1) pa_nil))))) (pss_one (ps_ret pe_bl)) pss_nil) (pss_cons (ps_asg (pV 0) (pg_tup rfl (pgs_cons (pg_name (i := 2) sc_placing.nd rfl (Or.inl rfl)) (pgs_cons (pg_name (i := 3) sc_placing.nd rfl (Or.inl rfl)) pgs_nil)))) (pss_cons (ps_set (i := 4) sc_placing.nd rfl (Or.inr rfl) (pe_compD1 (scX := defScope sPlacing) (own := ["row","moment"]) (cap := []) (ix := []) rfl rfl ⟨rfl,by decide +kernel,by decide +kernel,by decide +kernel,rfl,by decide +kernel⟩ (pi_tup (pV 1)) (fun b => (pg_tup rfl (pgs_cons (pg_name (i := 0) (show (["row","moment"]:List Str).Nodup by decide +kernel) rfl (Or.inl rfl)) (pgs_cons (pg_name (i := 1) (show (["row","moment"]:List Str).Nodup by decide +kernel) rfl (Or.inl rfl)) pgs_nil)))) (fun b => pif_nil) (fun b => (pV 0)) (fun b => (pV 1)))) (pss_cons (ps_if (pt_not (ptV (pe_callB (call_all rfl) rfl T.all PyProof.Rows.boot_all (pa_cons (pe_comp (scX := defScope sPlacing) (own := ["house"]) (cap := ["moments"]) (ix := [4]) rfl rfl ⟨rfl,by decide +kernel,by decide +kernel,by decide +kernel,rfl,by decide +kernel⟩ (pi_tup (pV 2)) (fun b => (pg_name (i := 0) (show (["house","moments"]:List Str).Nodup by decide +kernel) rfl (Or.inl rfl))) (fun b => pif_nil) (fun b => (pe_call G_z10 hr rfl M_z10 N_z10 B_z10 .nil pass0 (pa_cons (pV 0) (pa_cons (pV 1) pa_nil))))) pa_nil)))) (pss_one (ps_ret pe_bl)) pss_nil) (pss_one (ps_ret (pe_callB (call_all rfl) rfl T.all PyProof.Rows.boot_all (pa_cons (pe_comp (scX := defScope sPlacing) (own := ["letter"]) (cap := ["moments"]) (ix := [4]) rfl rfl ⟨rfl,by decide +kernel,by decide +kernel,by decide +kernel,rfl,by decide +kernel⟩ (pi_tup (pV 3)) (fun b => (pg_name (i := 0) (show (["letter","moments"]:List Str).Nodup by decide +kernel) rfl (Or.inl rfl))) (fun b => pif_nil) (fun b => (pe_call G_z11 hr rfl M_z11 N_z11 B_z11 .nil pass0 (pa_cons (pV 0) (pa_cons (pV 1) pa_nil))))) pa_nil)))))))),?_⟩
   refine ⟨x,t,hs,ls,ss,m,rfl,hx,gh,ht,pm,so,fun H1 s1 => ?_⟩
   obtain ⟨ca,y,z,rfl,hca,hH,hL⟩ := hx
   obtain ⟨cy,vy,rfl,hcy,py⟩ := hH
   obtain ⟨cz,vz,rfl,hcz,pz⟩ := hL
   obtain ⟨c,vs,rfl,hc,pr⟩ := ht
   have lv : vs.length = ss.length := by have z := pr.length; unfold toldR at z; rw [List.length_map] at z; exact z
   refine ⟨ca,_,rfl,SqT.of (s1 _ _ hca),rfl,_,_,rfl,_,_,rfl,rfl,?_⟩
   refine ⟨c,rfl,⟨_,SqT.of (s1 _ _ hc)⟩,fun D hD => ⟨WS vs.length (fun i σ H' => ∃ o1 o2,σ = [o1,o2] /\ H' D = some (.dK (kvT (ss.take i) m)) /\ Same H1 H'),ws0 ⟨none,none,rfl,by rw [upd_same]; rfl,(Same.refl H1).upd hD⟩,fun b => ct_tup (xs := vs) _ (fun i σ H' _ hz1 => by obtain ⟨_,_,_,_,s2⟩ := hz1; exact SqT.of (s2 _ _ (s1 _ _ hc))) (fun σ H2 hz2 => ?_) (fun i x σ H2 hx hi hz3 => ?_)⟩⟩
   . obtain ⟨_,_,_,eD,s2⟩ := hz2
     rw [lv,List.take_length] at eD
     have S2 := s1.trans s2
     have mo : MomAt H2 D m ss := ⟨_,.inl eD,fun n hn => kvT_val hn⟩
     have ly := py.length
     have lz := pz.length
     have h6 := gh.hi
     have l24 := gl.few
     refine ⟨cy,rfl,⟨_,SqT.of (S2 _ _ hcy)⟩,fun D2 hD2 => comp_map (xs := vy) (ys := (hs.map fun h => keepH h m).map V.bl) hD2 (SqT.of (S2 _ _ hcy)) (by omega) (by rw [List.length_map,List.length_map]; omega) (fun i y H3 hy s3 b R hR => ?_) (fun H3 s3 e3 => ?_)⟩
     . obtain ⟨hh,hhi,ha⟩ := paired_getL py hy
       have hmem := List.mem_of_getElem? hhi
       refine ⟨y,hh,D,m,rfl,ha.ts (S2.trans s3).tups,gh.all hh hmem,(mo.same (SameF.of s3)).part fun n hn => pm.mem_iff.mpr (List.mem_flatMap.mpr ⟨hh,hmem,hn⟩),fun H4 s4 => ?_⟩
       exact hR H4 _ (by rw [List.getElem?_map,List.getElem?_map,hhi]; rfl) s4
     . refine ⟨D2,_,rfl,SqL.of e3,?_⟩
       have e4 : (hs.map fun h => keepH h m).all id = hs.all fun h => keepH h m := by rw [List.all_map]; rfl
       rw [e4]
       cases k1 : hs.all fun h => keepH h m with
       | false =>
         have z := q H3 (S2.trans s3)
         unfold placB at z
         rw [k1] at z
         exact z
       | true =>
         have S3 := S2.trans s3
         refine ⟨cz,rfl,⟨_,SqT.of (S3 _ _ hcz)⟩,fun D3 hD3 => comp_map (xs := vz) (ys := (ls.map fun l => keepL l m).map V.bl) hD3 (SqT.of (S3 _ _ hcz)) (by omega) (by rw [List.length_map,List.length_map]; omega) (fun i y H4 hy s4 b R hR => ?_) (fun H4 s4 e5 => ?_)⟩
         . obtain ⟨l,hli,ha⟩ := paired_getL pz hy
           have hmem := List.mem_of_getElem? hli
           obtain ⟨h1,m1,h2,m2,n1,n2,_⟩ := (gl.all l hmem).houses
           refine ⟨y,l,D,m,rfl,ha.ts (S3.trans s4).tups,(mo.same (SameF.of (s3.trans s4))).part fun n hn => pm.mem_iff.mpr ?_,fun H5 s5 => ?_⟩
           . simp only [List.mem_cons,List.not_mem_nil,or_false] at hn
             rcases hn with rfl | rfl
             . exact List.mem_flatMap.mpr ⟨h1,m1,n1⟩
             . exact List.mem_flatMap.mpr ⟨h2,m2,n2⟩
           . exact hR H5 _ (by rw [List.getElem?_map,List.getElem?_map,hli]; rfl) s5
         . refine ⟨D3,_,rfl,SqL.of e5,?_⟩
           have z := q H4 (S3.trans s4)
           unfold placB at z
           rw [k1] at z
           have e6 : (ls.map fun l => keepL l m).all id = ls.all fun l => keepL l m := by rw [List.all_map]; rfl
           rw [e6]
           exact z
   . obtain ⟨o1,o2,rfl,eD,s2⟩ := hz3
     obtain ⟨rr,hrr,ra⟩ := paired_getL pr hx
     obtain ⟨a1,rfl,g1⟩ := ra.ts (s1.trans s2).tups
     unfold toldR at hrr
     rw [List.getElem?_map] at hrr
     obtain ⟨n,hn,rfl⟩ := Option.map_eq_some_iff.mp hrr
     refine ⟨a1,_,rfl,SqT.of g1,rfl,_,_,rfl,_,_,rfl,rfl,?_⟩
     have nn : n ∉ ss.take i := get_fresh nds hn
     refine ⟨_,.inr n,eD,rfl,by unfold kvT; rw [List.length_map,List.length_take]; omega,nxs hi ⟨_,_,rfl,?_,fun b o e => by rw [upd_ne (ne_of_none e hD)]; exact s2 _ _ e⟩⟩
     rw [upd_same,K02.putK_new (by rw [kvT_keys]; intro w; obtain ⟨n',hn',e⟩ := List.mem_map.mp w; exact nn (Sum.inr.inj e ▸ hn')),List.take_add_one,hn]
     unfold kvT
     rw [List.map_append]
     rfl
end
end K04
namespace K04
open PySem L2 K02
theorem cut_to {xs : List V} {k : Nat} (h : k <= xs.length) : cutV xs none (some (k : Int)) = xs.take k := by
 unfold cutV
 rw [HT.sIx_none,HT.sIx_nat,Nat.min_eq_left h]
 simp
def InstAt (H : Hp) (a : Addr) (m : Str -> Int) (ns : List Str) : Prop := ∃ kvs : List (Key × V),Rd H a (.dK kvs) /\ kvs.map (·.1) = ns.map Sum.inr /\ ∀ n ∈ ns,valV kvs (.inr n) = some (.int (m n))
theorem InstAt.mom {H : Hp} {a : Addr} {m : Str -> Int} {ns : List Str} (h : InstAt H a m ns) : MomAt H a m ns := let ⟨k,r,_,v⟩ := h; ⟨k,r,v⟩
theorem InstAt.same {H H' : Hp} {a : Addr} {m : Str -> Int} {ns : List Str} (h : InstAt H a m ns) (s : SameF H H') : InstAt H' a m ns := let ⟨k,r,e,v⟩ := h; ⟨k,s.rd r,e,v⟩
def spTold : Sp := fun vs H Q _ => ∃ (a : Addr) (m : Str -> Int) (ns : List Str),vs = [.ref a] /\ InstAt H a m ns /\ ns.length <= 24 /\ ∀ (p : Addr) (ss : List Str) (H' : Hp),RunAt H' (.ref p) (toldR ss m) -> ss.Perm ns -> PyProof.Rows.sortedS ss = true -> Same H H' -> Q (.ref p) H'
def spKeeps : Sp := fun vs H Q _ => ∃ (x : V) (a : Addr) (hs : List House) (ls : List Letter) (m : Str -> Int),vs = [x,.ref a] /\ LedgerAt H x hs ls /\ GoodHouses hs /\ GoodLetters hs ls /\ MomAt H a m (namesOf hs) /\ ∀ H',Same H H' -> Q (.bl (placB hs ls m)) H'
def adjB (m : Str -> Int) : List Str -> Bool
 | a :: b :: r => nextB m (a,b) && adjB m (b :: r)
 | _ => true
theorem adj_zip (m : Str -> Int) : ∀ l : List Str,(l.zip (l.drop 1)).all (nextB m) = adjB m l
 | [] => rfl
 | [_] => rfl
 | a :: b :: r => by
   have z := adj_zip m (b :: r)
   show (nextB m (a,b) && ((b :: r).zip r).all (nextB m)) = (nextB m (a,b) && adjB m (b :: r))
   rw [<- z]; rfl
theorem adj_snoc (m : Str -> Int) : ∀ (l : List Str) (n : Str),adjB m (l ++ [n]) = (adjB m l && (match l.getLast? with | none => true | some a => nextB m (a,n)))
 | [],n => rfl
 | [a],n => by simp [adjB]
 | a :: b :: r,n => by
   have z := adj_snoc m (b :: r) n
   show (nextB m (a,b) && adjB m ((b :: r) ++ [n])) = _
   rw [z,List.getLast?_cons_cons]
   show _ = (nextB m (a,b) && adjB m (b :: r) && _)
   rw [Bool.and_assoc]
theorem adj_app (m : Str -> Int) : ∀ (l r : List Str),adjB m (l ++ r) = true -> adjB m l = true
 | [],_,_ => rfl
 | [a],_,_ => rfl
 | a :: b :: l,r,h => by
   have h' : (nextB m (a,b) && adjB m ((b :: l) ++ r)) = true := h
   obtain ⟨h1,h2⟩ := Bool.and_eq_true_iff.mp h'
   exact Bool.and_eq_true_iff.mpr ⟨h1,adj_app m (b :: l) r h2⟩
def pairB (d : Int) (m : Str -> Int) (r q : Row) : Bool := decide ((q.2 - m q.1) - (r.2 - m r.1) <= d) && decide (0 - d <= (q.2 - m q.1) - (r.2 - m r.1))
theorem drift_snoc {rs : List Row} {r : Row} {d : Int} {m : Str -> Int} (d0 : 0 <= d) (h : driftB rs d m = true) (hp : ∀ q ∈ rs,pairB d m r q = true) : driftB (rs ++ [r]) d m = true := by
 unfold driftB at h ⊢
 have h' := of_decide_eq_true h
 refine decide_eq_true fun a ha b hb => ?_
 have pr : ∀ q ∈ rs,(q.2 - m q.1) - (r.2 - m r.1) <= d /\ 0 - d <= (q.2 - m q.1) - (r.2 - m r.1) := fun q hq => by
   have z := hp q hq
   unfold pairB at z
   obtain ⟨z1,z2⟩ := Bool.and_eq_true_iff.mp z
   exact ⟨of_decide_eq_true z1,of_decide_eq_true z2⟩
 unfold offs at ha hb h'
 rw [List.map_append] at ha hb
 rcases List.mem_append.mp ha with ha | ha
 . rcases List.mem_append.mp hb with hb | hb
   . exact h' a ha b hb
   . obtain ⟨q,hq,rfl⟩ := List.mem_map.mp ha
     have := pr q hq
     have e : b = r.2 - m r.1 := by simpa using hb
     omega
 . have e : a = r.2 - m r.1 := by simpa using ha
   rcases List.mem_append.mp hb with hb | hb
   . obtain ⟨q,hq,rfl⟩ := List.mem_map.mp hb
     have := pr q hq
     omega
   . have e2 : b = r.2 - m r.1 := by simpa using hb
     omega
theorem drift_no {rs : List Row} {r q : Row} {d : Int} {m : Str -> Int} (hr : r ∈ rs) (hq : q ∈ rs) (h : pairB d m r q = false) : driftB rs d m = false := by
 cases e : driftB rs d m with
 | false => rfl
 | true =>
   unfold driftB at e
   have h' := of_decide_eq_true e
   have z1 := h' _ (List.mem_map_of_mem (f := fun r => r.2 - m r.1) hq) _ (List.mem_map_of_mem (f := fun r => r.2 - m r.1) hr)
   have z2 := h' _ (List.mem_map_of_mem (f := fun r => r.2 - m r.1) hr) _ (List.mem_map_of_mem (f := fun r => r.2 - m r.1) hq)
   unfold pairB at h
   simp only [Bool.and_eq_false_iff,decide_eq_false_iff_not] at h
   omega
theorem plac_house {hs : List House} {ls : List Letter} {m : Str -> Int} {h : House} (hh : h ∈ hs) (e : keepH h m = false) : placB hs ls m = false := by
 cases z : placB hs ls m with
 | false => rfl
 | true =>
   have z1 := (Bool.and_eq_true_iff.mp z).1
   rw [List.all_eq_true.mp z1 h hh] at e
   cases e
theorem keep_parts {h : House} {m : Str -> Int} : keepH h m = true ↔ (∀ r ∈ rowsH h,rowB h m r = true) /\ adjB m (namesH h) = true /\ ∀ r ∈ h.runs,driftB r h.drift m = true := by
 unfold keepH
 rw [Bool.and_eq_true,Bool.and_eq_true,adj_zip,List.all_eq_true,List.all_eq_true]
theorem keep_no {h : House} {m : Str -> Int} (n : ¬ ((∀ r ∈ rowsH h,rowB h m r = true) /\ adjB m (namesH h) = true /\ ∀ r ∈ h.runs,driftB r h.drift m = true)) : keepH h m = false := by
 cases z : keepH h m with
 | false => rfl
 | true => exact absurd (keep_parts.mp z) n
theorem plac_letter {hs : List House} {ls : List Letter} {m : Str -> Int} {l : Letter} (hl : l ∈ ls) (e : keepL l m = false) : placB hs ls m = false := by
 cases z : placB hs ls m with
 | false => rfl
 | true =>
   have z1 := (Bool.and_eq_true_iff.mp z).2
   rw [List.all_eq_true.mp z1 l hl] at e
   cases e
theorem nextE {D : Ends} {σ : St} {H : Hp} (h : D.nx σ H) : tNext D σ H := h
def lastV (ns : List Str) : V := match ns.getLast? with | none => .non | some n => .str n
theorem lastV_snoc (ns : List Str) (n : Str) : lastV (ns ++ [n]) = .str n := by unfold lastV; rw [List.getLast?_concat]
def PreOk (h : House) (m : Str -> Int) (rows : List Row) : Prop := (∀ r ∈ rows,rowB h m r = true) /\ adjB m (rows.map Prod.fst) = true
def PK1 (x : V) (a : Addr) (hs : List House) (m : Str -> Int) (H : Hp) : Nat -> St -> Hp -> Prop := fun i σ H' => ∃ o2 o3 o4 o5 o6 o7 o8 o9 o10 o11 o12 o13 o14 o15 o16 o17 o18 o19 : Option V,σ = [some x,some (.ref a),o2,o3,o4,o5,o6,o7,o8,o9,o10,o11,o12,o13,o14,o15,o16,o17,o18,o19] /\ Same H H' /\ ∀ h ∈ hs.take i,keepH h m = true
def PK2 (x : V) (a : Addr) (h : House) (c5 : V) (m : Str -> Int) (H : Hp) : Nat -> St -> Hp -> Prop := fun j σ H' => ∃ o8 o9 o10 o11 o12 o13 o14 o15 o16 o17 o18 o19 : Option V,σ = [some x,some (.ref a),some (.str h.name),some (.int h.low),some (.int h.high),some (.int h.drift),some c5,some (lastV ((h.runs.take j).flatten.map Prod.fst)),o8,o9,o10,o11,o12,o13,o14,o15,o16,o17,o18,o19] /\ Same H H' /\ PreOk h m (h.runs.take j).flatten /\ ∀ r ∈ h.runs.take j,driftB r h.drift m = true
def PK3 (x : V) (a : Addr) (h : House) (c5 v8 : V) (pre rs : List Row) (m : Str -> Int) (H : Hp) : Nat -> St -> Hp -> Prop := fun k σ H' => ∃ o9 o10 o11 o12 o13 o14 o15 o16 o17 o18 o19 : Option V,σ = [some x,some (.ref a),some (.str h.name),some (.int h.low),some (.int h.high),some (.int h.drift),some c5,some (lastV ((pre ++ rs.take k).map Prod.fst)),some v8,o9,o10,o11,o12,o13,o14,o15,o16,o17,o18,o19] /\ Same H H' /\ PreOk h m (pre ++ rs.take k) /\ driftB (rs.take k) h.drift m = true
def PK4 (x : V) (a : Addr) (h : House) (c5 v8 : V) (k : Nat) (r : Row) (rs : List Row) (m : Str -> Int) (H : Hp) : Nat -> St -> Hp -> Prop := fun t σ H' => ∃ o12 o13 o14 o15 o16 o17 o18 o19 : Option V,σ = [some x,some (.ref a),some (.str h.name),some (.int h.low),some (.int h.high),some (.int h.drift),some c5,some (.str r.1),some v8,some (.int (0 + (k : Int))),some (.str r.1),some (.int r.2),o12,o13,o14,o15,o16,o17,o18,o19] /\ Same H H' /\ ∀ q ∈ (rs.take k).take t,pairB h.drift m r q = true
def PK5 (x : V) (a : Addr) (ls : List Letter) (m : Str -> Int) (H : Hp) : Nat -> St -> Hp -> Prop := fun i σ H' => ∃ o2 o3 o4 o5 o6 o7 o8 o9 o10 o11 o12 o13 o14 o15 o16 o17 o18 o19 : Option V,σ = [some x,some (.ref a),o2,o3,o4,o5,o6,o7,o8,o9,o10,o11,o12,o13,o14,o15,o16,o17,o18,o19] /\ Same H H' /\ ∀ l ∈ ls.take i,keepL l m = true
section
variable {P : Program} {w : World} {K : PySem.W.Frag} {mg : Str -> Option Value} {base : Heap} {t8 : Tok}
theorem sc_told : FnScope ["_law_instants"] ["_law_instants"] (defScope sTold) := ⟨rfl,rfl,rfl,by decide +kernel,rfl,by decide +kernel,by decide +kernel⟩
theorem ok_told {f : Addr} {fd : FuncData} (F : Fun K "_law_told" "_law_told" sTold f fd) (T : Txt mg t8) : FnOk P w K mg base CX0 1 f fd ["_law_instants"] spTold := by
 refine F.ok sc_told (fun vs H Q E h => ?_) (fun cdv A outer s H vs Q E hr h => ?_)
 . obtain ⟨a,m,ns,rfl,_⟩ := h
   rfl
 . obtain ⟨a,m,ns,rfl,hi,few,q⟩ := h
   have sl0 : sizeLine = 16777216 := sizeLine_eq
   refine ⟨_,(pss_one (ps_ret (pe_callTy call_tuple_of rfl T.tuple PyProof.Rows.boot_tuple (pa_cons (pe_comp (scX := defScope sTold) (own := ["_law_row"]) (cap := ["_law_instants"]) (ix := [0]) rfl rfl ⟨rfl,by decide +kernel,by decide +kernel,by decide +kernel,rfl,by decide +kernel⟩ (pi_list (pe_callB (call_sortedR rfl) rfl T.sorted PyProof.Rows.boot_sorted (pa_cons (pV 0) pa_nil))) (fun b => (pg_name (i := 0) (show (["_law_row","_law_instants"]:List Str).Nodup by decide +kernel) rfl (Or.inl rfl))) (fun b => pif_nil) (fun b => (pe_tup (pa_cons (pV 0) (pa_cons (pe_dget (hu_of hr) (pV 1) (pV 0) (fun _ _ => rfl)) pa_nil))))) pa_nil)))),?_⟩
   obtain ⟨kvs,rd,ek,ev⟩ := id hi
   refine ⟨a,kvs,ns,rfl,rd,ek,by omega,fun l ss hl pm so => ?_⟩
   have s1 : Same H (upd H l (.lst (ss.map V.str))) := (Same.refl H).upd hl
   have e1 : upd H l (.lst (ss.map V.str)) l = some (.lst (ss.map V.str)) := upd_same
   generalize upd H l (.lst (ss.map V.str)) = H1 at s1 e1 ⊢
   have lss : ss.length = ns.length := pm.length_eq
   refine ⟨l,rfl,⟨_,SqL.of e1⟩,fun D hD => comp_list (xs := ss.map V.str) (fun i H' => ∃ zs,Grow H1 H' D zs /\ Paired (RowAt H') zs (toldR (ss.take i) m)) ⟨[],Grow.start hD,.nil⟩ (fun i H' _ G => by obtain ⟨_,G,_⟩ := G; exact SqL.of (G.same _ _ e1)) (fun H2 G => ?_) (fun i y H2 hy hi' G b => ?_)⟩
   . obtain ⟨zs,G,pz⟩ := G
     rw [List.length_map,List.take_length] at pz
     refine ⟨D,zs,rfl,.inl ⟨SqL.of G.at',fun l3 hl3 => ?_⟩⟩
     have s3 : Same H2 (upd H2 l3 (.tup zs)) := (Same.refl H2).upd hl3
     exact q l3 ss _ ⟨l3,zs,rfl,upd_same,paired_mono (fun _ _ z => z.ts s3.tups) pz⟩ pm so ((s1.trans G.same).trans s3)
   . obtain ⟨zs,G,pz⟩ := G
     rw [List.getElem?_map] at hy
     obtain ⟨n,hn,rfl⟩ := Option.map_eq_some_iff.mp hy
     have lz := pz.length
     unfold toldR at lz
     rw [List.length_map,List.length_take] at lz
     refine ⟨a,.int (m n),rfl,((hi.same (SameF.of (s1.trans G.same))).mom).get (pm.mem_iff.mp (List.mem_of_getElem? hn)),?_⟩
     refine ⟨by show 2 <= sizeLine; omega,fun p hp => ?_⟩
     have s3 : Same H2 (upd H2 p (.tup [.str n,.int (m n)])) := (Same.refl H2).upd hp
     have e3 : upd H2 p (.tup [.str n,.int (m n)]) p = some (.tup [.str n,.int (m n)]) := upd_same
     generalize upd H2 p (.tup [.str n,.int (m n)]) = H3 at s3 e3 ⊢
     have G3 := G.more s3
     refine ⟨zs,G3.at',by omega,nx hi' ⟨zs ++ [.ref p],G3.put hD _,?_⟩⟩
     have pD : p ≠ D := fun z => by rw [z,G.at'] at hp; cases hp
     have tt : Tups H3 (upd H3 D (.lst (zs ++ [.ref p]))) := fun c xs e => by rw [upd_ne (fun z => by rw [z,G3.at'] at e; cases e)]; exact e
     rw [List.take_add_one,hn]
     show Paired _ _ (toldR (ss.take i ++ [n]) m)
     unfold toldR
     rw [List.map_append]
     exact paired_app (paired_mono (fun _ _ z => (z.ts s3.tups).ts tt) pz) (.cons ⟨p,rfl,tt _ _ e3⟩ .nil)
theorem sc_keeps : FnScope ["_law_ledger_here","_law_instants","_law_name","_law_low","_law_high","_law_drift","_law_runs","_law_behind","_law_run","_law_k","_law_row","_law_reading","_law_ahead","_law_other","_law_apart_here","_law_sent","_law_taken","_law_least","_law_most","_law_way_here"] ["_law_ledger_here","_law_instants"] (defScope sKeeps) := ⟨rfl,rfl,rfl,by decide +kernel,rfl,by decide +kernel,by decide +kernel⟩
theorem ok_keeps {f : Addr} {fd : FuncData} (F : Fun K "_law_keeps" "_law_keeps" sKeeps f fd) (T : Txt mg t8) : FnOk P w K mg base CX0 1 f fd ["_law_ledger_here","_law_instants"] spKeeps := by
 refine F.ok sc_keeps (fun vs H Q E h => ?_) (fun cdv A outer s H vs Q E hr h => ?_)
 . obtain ⟨x,a,hs,ls,m,rfl,_⟩ := h
   rfl
 . obtain ⟨x,a,hs,ls,m,rfl,hx,gh,gl,mo,q⟩ := h
   have sl0 : sizeLine = 16777216 := sizeLine_eq
   refine ⟨_,(pss_cons (ps_for PassesOwn.never rfl (pi_tup (pe_ix iIxT (pV 0) pe_int (fun _ _ => rfl))) (pg_tup rfl (pgs_cons (pg_name (i := 2) sc_keeps.nd rfl (Or.inl rfl)) (pgs_cons (pg_name (i := 3) sc_keeps.nd rfl (Or.inl rfl)) (pgs_cons (pg_name (i := 4) sc_keeps.nd rfl (Or.inl rfl)) (pgs_cons (pg_name (i := 5) sc_keeps.nd rfl (Or.inl rfl)) (pgs_cons (pg_name (i := 6) sc_keeps.nd rfl (Or.inl rfl)) pgs_nil)))))) (pss_cons (ps_set (i := 7) sc_keeps.nd rfl (Or.inl rfl) pe_non) (pss_one (ps_for PassesOwn.never rfl (pi_tup (pV 6)) (pg_name (i := 8) sc_keeps.nd rfl (Or.inl rfl)) (pss_one (ps_for PassesOwn.never rfl (pi_range1 rfl T.range (pa_cons (pe_callB call_len_seq rfl T.len PySem.boot_len (pa_cons (pV 8) pa_nil)) pa_nil)) (pg_name (i := 9) sc_keeps.nd rfl (Or.inl rfl)) (pss_cons (ps_asg (pe_ix iIxT (pV 8) (pV 9) (fun _ _ => rfl)) (pg_tup rfl (pgs_cons (pg_name (i := 10) sc_keeps.nd rfl (Or.inl rfl)) (pgs_cons (pg_name (i := 11) sc_keeps.nd rfl (Or.inl rfl)) pgs_nil)))) (pss_cons (ps_if (ptOr (ptC oLt (pe_op oSub (pV 11) (pe_dget (hu_of hr) (pV 1) (pV 10) (fun _ _ => rfl))) (pV 3) (nomark _)) (pw_or1 (ptC oGt (pe_op oSub (pV 11) (pe_dget (hu_of hr) (pV 1) (pV 10) (fun _ _ => rfl))) (pV 4) (nomark _)))) (pss_one (ps_ret pe_bl)) pss_nil) (pss_cons (ps_if (ptAnd (pt_cmp (pc_notN (pV 7))) (pw_and1 (ptC oLt (pe_dget (hu_of hr) (pV 1) (pV 10) (fun _ _ => rfl)) (pe_op oAdd (pe_dget (hu_of hr) (pV 1) (pV 7) (fun _ _ => rfl)) pe_int) (nomark _)))) (pss_one (ps_ret pe_bl)) pss_nil) (pss_cons (ps_set (i := 7) sc_keeps.nd rfl (Or.inl rfl) (pV 10)) (pss_one (ps_for PassesOwn.never rfl (pi_tup (pe_slice iSlA (pV 8) po_none (poI (pV 9)))) (pg_tup rfl (pgs_cons (pg_name (i := 12) sc_keeps.nd rfl (Or.inl rfl)) (pgs_cons (pg_name (i := 13) sc_keeps.nd rfl (Or.inl rfl)) pgs_nil))) (pss_cons (ps_set (i := 14) sc_keeps.nd rfl (Or.inl rfl) (pe_op oAdd (pe_op oSub (pe_op oSub (pe_dget (hu_of hr) (pV 1) (pV 10) (fun _ _ => rfl)) (pe_dget (hu_of hr) (pV 1) (pV 12) (fun _ _ => rfl))) (pV 11)) (pV 13))) (pss_one (ps_if (ptOr (ptC oGt (pV 14) (pV 5) (nomark _)) (pw_or1 (ptC oLt (pV 14) (pe_op oSub pe_int (pV 5)) (nomark _)))) (pss_one (ps_ret pe_bl)) pss_nil))))))))))))))) (pss_cons (ps_for PassesOwn.never rfl (pi_tup (pe_ix iIxT (pV 0) pe_int (fun _ _ => rfl))) (pg_tup rfl (pgs_cons (pg_name (i := 15) sc_keeps.nd rfl (Or.inl rfl)) (pgs_cons (pg_name (i := 16) sc_keeps.nd rfl (Or.inl rfl)) (pgs_cons (pg_name (i := 17) sc_keeps.nd rfl (Or.inl rfl)) (pgs_cons (pg_name (i := 18) sc_keeps.nd rfl (Or.inl rfl)) pgs_nil))))) (pss_cons (ps_set (i := 19) sc_keeps.nd rfl (Or.inl rfl) (pe_op oSub (pe_dget (hu_of hr) (pV 1) (pV 16) (fun _ _ => rfl)) (pe_dget (hu_of hr) (pV 1) (pV 15) (fun _ _ => rfl)))) (pss_one (ps_if (ptOr (ptC oLt (pV 19) (pV 17) (nomark _)) (pw_or1 (ptAnd (pt_cmp (pc_notN (pV 18))) (pw_and1 (ptC oGt (pV 19) (pV 18) (nomark _)))))) (pss_one (ps_ret pe_bl)) pss_nil)))) (pss_one (ps_ret pe_bl)))),?_⟩
   obtain ⟨ca,y,z,rfl,hca,hH,hL⟩ := hx
   obtain ⟨cy,vy,rfl,hcy,py⟩ := hH
   obtain ⟨cz,vz,rfl,hcz,pz⟩ := hL
   have no : ∀ H',Same H H' -> placB hs ls m = false -> Q (.bl false) H' := fun H' s' e => by have w := q H' s'; rw [e] at w; exact w
   refine ixTup (SqT.of hca) (i := 0) (v := .ref cy) (by rfl) ?_
   refine ⟨cy,rfl,⟨_,SqT.of hcy⟩,for_tup (xs := vy) (PK1 (.ref ca) a hs m H) ⟨none,none,none,none,none,none,none,none,none,none,none,none,none,none,none,none,none,none,rfl,Same.refl _,fun h hh => by simp at hh⟩ (fun i σ H' _ hz => by obtain ⟨_o2,_o3,_o4,_o5,_o6,_o7,_o8,_o9,_o10,_o11,_o12,_o13,_o14,_o15,_o16,_o17,_o18,_o19,_,s',_⟩ := hz; exact SqT.of (s' _ _ hcy)) (fun i v σ H1 hv hz => ?_) (fun σ H1 hz => ?_)⟩
   . obtain ⟨o2,o3,o4,o5,o6,o7,o8,o9,o10,o11,o12,o13,o14,o15,o16,o17,o18,o19,rfl,s1,k1⟩ := hz
     obtain ⟨h,hhi,c,bb,rfl,hc,c5,vr,rfl,hc5,pr⟩ := paired_getL py hv
     have hmem := List.mem_of_getElem? hhi
     have gd := gh.all h hmem
     have moh : ∀ H',Same H H' -> MomAt H' a m (namesH h) := fun H' s' => (mo.same (SameF.of s')).part fun n hn => List.mem_flatMap.mpr ⟨h,hmem,hn⟩
     refine ⟨c,_,rfl,SqT.of (s1 _ _ hc),rfl,_,_,rfl,_,_,rfl,_,_,rfl,_,_,rfl,_,_,rfl,rfl,?_⟩
     refine ⟨c5,rfl,⟨_,SqT.of (s1 _ _ hc5)⟩,for_tup (xs := vr) (PK2 (.ref ca) a h (.ref c5) m H) ⟨_,_,_,_,_,_,_,_,_,_,_,_,rfl,s1,⟨fun r hr => by simp at hr,rfl⟩,fun r hr => by simp at hr⟩ (fun j σ H' _ hz => by obtain ⟨_o8,_o9,_o10,_o11,_o12,_o13,_o14,_o15,_o16,_o17,_o18,_o19,_,s',_⟩ := hz; exact SqT.of (s' _ _ hc5)) (fun j v8 σ H2 hv8 hz => ?_) (fun σ H2 hz => ?_)⟩
     . obtain ⟨o8,o9,o10,o11,o12,o13,o14,o15,o16,o17,o18,o19,rfl,s2,pre,dr⟩ := hz
       obtain ⟨rs,hrs,c8,ws,rfl,hc8,pw⟩ := paired_getL pr hv8
       have rmem := List.mem_of_getElem? hrs
       have gr := gd.runs rs rmem
       have lw := pw.length
       have few := gr.few
       refine ⟨c8,ws,rfl,.inr (SqT.of (s2 _ _ hc8)),?_⟩
       have split : h.runs = h.runs.take j ++ (rs :: h.runs.drop (j + 1)) := by
         obtain ⟨li,fi⟩ := List.getElem?_eq_some_iff.mp hrs
         rw [<- fi,List.getElem_cons_drop,List.take_append_drop]
       refine ⟨(ws.length : Int),rfl,by omega,by omega,for_range (lo := 0) (n := (ws.length : Int).toNat) (PK3 (.ref ca) a h (.ref c5) (.ref c8) (h.runs.take j).flatten rs m H) ⟨_,_,_,_,_,_,_,_,_,_,_,by rw [List.take_zero,List.append_nil]; rfl,s2,by rw [List.take_zero,List.append_nil]; exact pre,by rw [List.take_zero]; rfl⟩ (fun k σ H3 hk hz => ?_) (fun σ H3 hz => ?_)⟩
       . obtain ⟨o9,o10,o11,o12,o13,o14,o15,o16,o17,o18,o19,rfl,s3,pre3,dr3⟩ := hz
         have hk' : k < ws.length := by omega
         obtain ⟨vk,hvk⟩ : ∃ v,ws[k]? = some v := ⟨_,List.getElem?_eq_getElem hk'⟩
         obtain ⟨r,hrk,cr,rfl,hcr⟩ := paired_getL pw hvk
         have hrm := List.mem_of_getElem? hrk
         have inh : r ∈ rowsH h := List.mem_flatten.mpr ⟨rs,rmem,hrm⟩
         have inn : r.1 ∈ namesH h := List.mem_map_of_mem inh
         have row9 : rs.take (k + 1) = rs.take k ++ [r] := by rw [List.take_add_one,hrk]; rfl
         have preH : ∃ post,rowsH h = ((h.runs.take j).flatten ++ rs.take k) ++ (r :: post) := by
           refine ⟨rs.drop (k + 1) ++ (h.runs.drop (j + 1)).flatten,?_⟩
           have e2 : rs = rs.take k ++ (r :: rs.drop (k + 1)) := by
             obtain ⟨li,fi⟩ := List.getElem?_eq_some_iff.mp hrk
             rw [<- fi,List.getElem_cons_drop,List.take_append_drop]
           unfold rowsH
           conv => lhs; rw [split]
           rw [List.flatten_append,List.flatten_cons]
           conv => lhs; rw [e2]
           simp only [List.append_assoc,List.cons_append]
         refine ixTup (SqT.of (s3 _ _ hc8)) (i := 0 + (k : Int)) (v := .ref cr) (by rw [Int.zero_add]; exact atI_nat hvk) ?_
         refine ⟨cr,_,rfl,SqT.of (s3 _ _ hcr),rfl,_,_,rfl,_,_,rfl,rfl,?_⟩
         refine ⟨a,.int (m r.1),rfl,(moh H3 s3).get inn,?_⟩
         show (if decide (r.2 - m r.1 < h.low) = true then _ else _)
         by_cases c1 : r.2 - m r.1 < h.low
         . rw [if_pos (decide_eq_true c1)]
           refine no H3 s3 (plac_house hmem (keep_no fun w => ?_))
           have z := w.1 r inh
           unfold rowB at z
           obtain ⟨z1,_⟩ := Bool.and_eq_true_iff.mp z
           have := of_decide_eq_true z1
           omega
         . rw [if_neg (by simpa using c1)]
           refine ⟨a,.int (m r.1),rfl,(moh H3 s3).get inn,?_⟩
           show (if decide (h.high < r.2 - m r.1) = true then _ else _)
           by_cases c2 : h.high < r.2 - m r.1
           . rw [if_pos (decide_eq_true c2)]
             refine no H3 s3 (plac_house hmem (keep_no fun w => ?_))
             have z := w.1 r inh
             unfold rowB at z
             obtain ⟨_,z1⟩ := Bool.and_eq_true_iff.mp z
             have := of_decide_eq_true z1
             omega
           . rw [if_neg (by simpa using c2)]
             have rowOk : rowB h m r = true := by
               unfold rowB
               exact Bool.and_eq_true_iff.mpr ⟨decide_eq_true (by omega),decide_eq_true (by omega)⟩
             have ens : ((h.runs.take j).flatten ++ rs.take (k + 1)).map Prod.fst = ((h.runs.take j).flatten ++ rs.take k).map Prod.fst ++ [r.1] := by
               rw [row9,<- List.append_assoc,List.map_append]; rfl
             refine nextE ?_
             dsimp only
             refine if_join (fun σ' H' => ∃ L : V,σ' = [some (.ref ca),some (.ref a),some (.str h.name),some (.int h.low),some (.int h.high),some (.int h.drift),some (.ref c5),some L,some (.ref c8),some (.int (0 + (k : Int))),some (.str r.1),some (.int r.2),o12,o13,o14,o15,o16,o17,o18,o19] /\ H' = H3 /\ adjB m (((h.runs.take j).flatten ++ rs.take (k + 1)).map Prod.fst) = true) (fun U hU => ?_) (fun σ' H' hN => ?_)
             . refine ⟨_,rfl,?_⟩
               cases gl' : (((h.runs.take j).flatten ++ rs.take k).map Prod.fst).getLast? with
               | none =>
                 have eL : lastV (((h.runs.take j).flatten ++ rs.take k).map Prod.fst) = .non := by unfold lastV; rw [gl']
                 rw [eL]
                 refine hU _ _ ⟨.non,rfl,rfl,?_⟩
                 rw [ens,adj_snoc,gl',pre3.2]; rfl
               | some b =>
                 have eL : lastV (((h.runs.take j).flatten ++ rs.take k).map Prod.fst) = .str b := by unfold lastV; rw [gl']
                 rw [eL]
                 have inb : b ∈ namesH h := by
                   obtain ⟨post,ep⟩ := preH
                   have z := List.mem_of_getLast? gl'
                   show b ∈ (rowsH h).map Prod.fst
                   rw [ep,List.map_append]
                   exact List.mem_append_left _ z
                 refine ⟨a,.int (m r.1),rfl,(moh H3 s3).get inn,?_⟩
                 refine ⟨a,.int (m b),rfl,(moh H3 s3).get inb,?_⟩
                 show (if decide (m r.1 < m b + 1) = true then _ else _)
                 by_cases c3 : m r.1 < m b + 1
                 . rw [if_pos (decide_eq_true c3)]
                   refine no H3 s3 (plac_house hmem (keep_no fun w => ?_))
                   obtain ⟨post,ep⟩ := preH
                   have z := w.2.1
                   have e4 : namesH h = (((h.runs.take j).flatten ++ rs.take k).map Prod.fst ++ [r.1]) ++ post.map Prod.fst := by
                     show (rowsH h).map Prod.fst = _
                     rw [ep,List.map_append,List.map_cons]
                     simp only [List.append_assoc,List.cons_append,List.nil_append]
                   rw [e4] at z
                   have z2 := adj_app m _ _ z
                   rw [adj_snoc,gl'] at z2
                   obtain ⟨_,z3⟩ := Bool.and_eq_true_iff.mp z2
                   have z4 : 1 <= m r.1 - m b := of_decide_eq_true z3
                   omega
                 . rw [if_neg (by simpa using c3)]
                   refine hU _ _ ⟨.str b,rfl,rfl,?_⟩
                   rw [ens,adj_snoc,gl',pre3.2]
                   show decide (1 <= m r.1 - m b) = true
                   exact decide_eq_true (by omega)
             . obtain ⟨L,rfl,rfl,adj⟩ := hN
               refine ⟨⟨c8,ws,rfl,s3 _ _ hc8,fun p H4 ep s4 => ?_⟩⟩
               rw [Int.zero_add,cut_to (by omega)] at ep
               have S4 := s3.trans s4
               refine ⟨p,rfl,⟨_,SqT.of ep⟩,for_tup (xs := ws.take k) (PK4 (.ref ca) a h (.ref c5) (.ref c8) k r rs m H4) ⟨_,_,_,_,_,_,_,_,rfl,Same.refl _,fun q hq => by simp at hq⟩ (fun t σ H' _ hz => ?_) (fun t v σ H5 hv hz => ?_) (fun σ H5 hz => ?_)⟩
               . obtain ⟨_o12,_o13,_o14,_o15,_o16,_o17,_o18,_o19,_,s',_⟩ := hz
                 exact SqT.of (s' _ _ ep)
               . obtain ⟨o12,o13,o14,o15,o16,o17,o18,o19,rfl,s5,pk⟩ := hz
                 have S5 := S4.trans s5
                 have lt : t < k := by
                   have z := (List.getElem?_eq_some_iff.mp hv).1
                   rw [List.length_take] at z
                   omega
                 rw [List.getElem?_take_of_lt lt] at hv
                 obtain ⟨q',hqt,cq,rfl,hcq⟩ := paired_getL pw hv
                 have hqm := List.mem_of_getElem? hqt
                 have inq : q'.1 ∈ namesH h := List.mem_map_of_mem (List.mem_flatten.mpr ⟨rs,rmem,hqm⟩)
                 refine ⟨cq,_,rfl,SqT.of (S5 _ _ hcq),rfl,_,_,rfl,_,_,rfl,rfl,?_⟩
                 refine ⟨a,.int (m r.1),rfl,(moh H5 S5).get inn,?_⟩
                 refine ⟨a,.int (m q'.1),rfl,(moh H5 S5).get inq,?_⟩
                 show (if decide (h.drift < m r.1 - m q'.1 - r.2 + q'.2) = true then _ else _)
                 have bad : pairB h.drift m r q' = false -> Q (.bl false) H5 := fun e => no H5 S5 (plac_house hmem (keep_no fun w => by
                   have z := w.2.2 rs rmem
                   rw [drift_no hrm hqm e] at z
                   cases z))
                 by_cases c3 : h.drift < m r.1 - m q'.1 - r.2 + q'.2
                 . rw [if_pos (decide_eq_true c3)]
                   exact bad (by unfold pairB; rw [decide_eq_false (by omega)]; rfl)
                 . rw [if_neg (by simpa using c3)]
                   show (if decide (m r.1 - m q'.1 - r.2 + q'.2 < 0 - h.drift) = true then _ else _)
                   by_cases c4 : m r.1 - m q'.1 - r.2 + q'.2 < 0 - h.drift
                   . rw [if_pos (decide_eq_true c4)]
                     exact bad (by unfold pairB; rw [decide_eq_false (p := 0 - h.drift <= _) (by omega),Bool.and_false])
                   . rw [if_neg (by simpa using c4)]
                     refine ⟨_,_,_,_,_,_,_,_,rfl,s5,fun q2 hq2 => ?_⟩
                     have e5 : (rs.take k)[t]? = some q' := by rw [List.getElem?_take_of_lt lt]; exact hqt
                     rw [List.take_add_one,e5] at hq2
                     rcases List.mem_append.mp hq2 with z | z
                     . exact pk q2 z
                     . rw [show q2 = q' from by simpa using z]
                       unfold pairB
                       exact Bool.and_eq_true_iff.mpr ⟨decide_eq_true (by omega),decide_eq_true (by omega)⟩
               . obtain ⟨o12,o13,o14,o15,o16,o17,o18,o19,rfl,s5,pk⟩ := hz
                 have S5 := S4.trans s5
                 have e5 : (rs.take k).take (ws.take k).length = rs.take k := List.take_of_length_le (by rw [List.length_take,List.length_take]; omega)
                 rw [e5] at pk
                 refine ⟨_,_,_,_,_,_,_,_,_,_,_,by rw [ens,lastV_snoc],S5,⟨fun r2 hr2 => ?_,adj⟩,?_⟩
                 . rw [row9,<- List.append_assoc] at hr2
                   rcases List.mem_append.mp hr2 with z | z
                   . exact pre3.1 r2 z
                   . rw [List.mem_singleton.mp z]; exact rowOk
                 . rw [row9]
                   exact drift_snoc gd.drift dr3 pk
       . obtain ⟨o9,o10,o11,o12,o13,o14,o15,o16,o17,o18,o19,rfl,s3,pre3,dr3⟩ := hz
         have e1 : rs.take (ws.length : Int).toNat = rs := List.take_of_length_le (by omega)
         rw [e1] at pre3 dr3
         have e2 : (h.runs.take (j + 1)) = h.runs.take j ++ [rs] := by rw [List.take_add_one,hrs]; rfl
         have e3 : (h.runs.take (j + 1)).flatten = (h.runs.take j).flatten ++ rs := by rw [e2,List.flatten_append]; simp
         refine ⟨_,_,_,_,_,_,_,_,_,_,_,_,by rw [e1,e3],s3,by rw [e3]; exact pre3,fun r hr => ?_⟩
         rw [e2] at hr
         rcases List.mem_append.mp hr with z | z
         . exact dr r z
         . rw [List.mem_singleton.mp z]; exact dr3
     . obtain ⟨o8,o9,o10,o11,o12,o13,o14,o15,o16,o17,o18,o19,rfl,s2,pre,dr⟩ := hz
       have lr := pr.length
       have e1 : h.runs.take vr.length = h.runs := List.take_of_length_le (by omega)
       rw [e1] at pre dr
       refine ⟨_,_,_,_,_,_,_,_,_,_,_,_,_,_,_,_,_,_,rfl,s2,fun k hk => ?_⟩
       rw [List.take_add_one,hhi] at hk
       rcases List.mem_append.mp hk with z | z
       . exact k1 k z
       . rw [show k = h from by simpa using z]
         exact keep_parts.mpr ⟨pre.1,pre.2,dr⟩
   . obtain ⟨o2,o3,o4,o5,o6,o7,o8,o9,o10,o11,o12,o13,o14,o15,o16,o17,o18,o19,rfl,s1,k1⟩ := hz
     have ly := py.length
     have e1 : hs.take vy.length = hs := List.take_of_length_le (by omega)
     rw [e1] at k1
     refine ixTup (SqT.of (s1 _ _ hca)) (i := 1) (v := .ref cz) (by rfl) ?_
     refine ⟨cz,rfl,⟨_,SqT.of (s1 _ _ hcz)⟩,for_tup (xs := vz) (PK5 (.ref ca) a ls m H) ⟨_,_,_,_,_,_,_,_,_,_,_,_,_,_,_,_,_,_,rfl,s1,fun l hl => by simp at hl⟩ (fun i σ H' _ hz => by obtain ⟨_o2,_o3,_o4,_o5,_o6,_o7,_o8,_o9,_o10,_o11,_o12,_o13,_o14,_o15,_o16,_o17,_o18,_o19,_,s',_⟩ := hz; exact SqT.of (s' _ _ hcz)) (fun i v σ H2 hv hz => ?_) (fun σ H2 hz => ?_)⟩
     . obtain ⟨o2,o3,o4,o5,o6,o7,o8,o9,o10,o11,o12,o13,o14,o15,o16,o17,o18,o19,rfl,s2,k2⟩ := hz
       obtain ⟨l,hli,cl,rfl,hcl⟩ := paired_getL pz hv
       have hmem := List.mem_of_getElem? hli
       obtain ⟨h1,m1,h2,m2,n1,n2,_⟩ := (gl.all l hmem).houses
       have in1 : l.1.1 ∈ namesOf hs := List.mem_flatMap.mpr ⟨h1,m1,n1⟩
       have in2 : l.1.2 ∈ namesOf hs := List.mem_flatMap.mpr ⟨h2,m2,n2⟩
       have mo2 := mo.same (SameF.of s2)
       refine ⟨cl,_,rfl,SqT.of (s2 _ _ hcl),rfl,_,_,rfl,_,_,rfl,_,_,rfl,_,_,rfl,rfl,?_⟩
       refine ⟨a,.int (m l.1.2),rfl,mo2.get in2,?_⟩
       refine ⟨a,.int (m l.1.1),rfl,mo2.get in1,?_⟩
       show (if decide (m l.1.2 - m l.1.1 < l.2.1) = true then _ else _)
       have fin : keepL l m = true -> PK5 (.ref ca) a ls m H (i + 1) [some (.ref ca),some (.ref a),o2,o3,o4,o5,o6,o7,o8,o9,o10,o11,o12,o13,o14,some (.str l.1.1),some (.str l.1.2),some (.int l.2.1),some (mostV l.2.2),some (.int (m l.1.2 - m l.1.1))] H2 := fun kl => by
         refine ⟨_,_,_,_,_,_,_,_,_,_,_,_,_,_,_,_,_,_,rfl,s2,fun k hk => ?_⟩
         rw [List.take_add_one,hli] at hk
         rcases List.mem_append.mp hk with z | z
         . exact k2 k z
         . rw [show k = l from by simpa using z]; exact kl
       by_cases c1 : m l.1.2 - m l.1.1 < l.2.1
       . rw [if_pos (decide_eq_true c1)]
         refine no H2 s2 (plac_letter hmem ?_)
         unfold keepL
         rw [decide_eq_false (by omega)]; rfl
       . rw [if_neg (by simpa using c1)]
         obtain ⟨⟨se,ta⟩,le,mst⟩ := l
         cases mst with
         | none =>
           refine ⟨_,rfl,?_⟩
           exact fin (by unfold keepL; dsimp only at c1 ⊢; rw [decide_eq_true (by omega)]; rfl)
         | some y =>
           refine ⟨_,rfl,?_⟩
           show (if decide (y < m ta - m se) = true then _ else _)
           by_cases c2 : y < m ta - m se
           . rw [if_pos (decide_eq_true c2)]
             refine no H2 s2 (plac_letter hmem ?_)
             unfold keepL
             dsimp only
             rw [decide_eq_false (p := m ta - m se <= y) (by omega),Bool.and_false]
           . rw [if_neg (by simpa using c2)]
             exact fin (by unfold keepL; dsimp only at c1 ⊢; rw [decide_eq_true (by omega),decide_eq_true (by omega)]; rfl)
     . obtain ⟨o2,o3,o4,o5,o6,o7,o8,o9,o10,o11,o12,o13,o14,o15,o16,o17,o18,o19,rfl,s2,k2⟩ := hz
       have lz := pz.length
       have e2 : ls.take vz.length = ls := List.take_of_length_le (by omega)
       rw [e2] at k2
       have w := q H2 s2
       have e3 : placB hs ls m = true := Bool.and_eq_true_iff.mpr ⟨List.all_eq_true.mpr k1,List.all_eq_true.mpr k2⟩
       rw [e3] at w
       exact w
end
end K04
namespace K04
open PySem L2 K02
theorem do_app2 {K : PySem.W.Frag} {σ : St} {H : Hp} {te : TE} {ds : List Da} {iF : Nat} {D : Ends} {a : Addr} {vs : List V} {d : Da} (e : σ[iF]? = some (some (.ref a))) (ha : H a = some (.lst vs)) (hv : DaAs H vs ds) (few : ds.length <= 1000000) (elt : TD te σ H d)
   (fin : ∀ H' ws,Kp H H' -> SameB a H H' -> H' a = some (.lst ws) -> DaAs H' ws (ds ++ [d]) -> D.nx σ H') : tDrop (tBM K "list" rAppend (tV iF) (tCons te tNil)) D σ H := by
 have sl0 : sizeLine = 16777216 := sizeLine_eq
 have lw := hv.len
 unfold tDrop tBM tV
 rw [e]
 refine ⟨.inl ⟨rfl,_,SqL.of ha⟩,?_⟩
 refine elt.r H (Same.refl _) _ fun v H2 s2 hvd => ?_
 have ea2 := s2 _ _ ha
 exact ⟨a,vs,v,rfl,rfl,ea2,by omega,fin _ _ ((Kp.of s2).trans (Kp.put ea2)) ((SameB.of s2).upd) upd_same (((hv.same s2).app (.cons hvd .nil)).kp (Kp.put ea2))⟩
def ptDa : Option Str -> Da
 | none => .non
 | some n => .str n
def ptV : Option Str -> V
 | none => .non
 | some n => .str n
abbrev Step := Da × Option Str × Option Str × Int
def stepDa (s : Step) : Da := .tup [s.1,ptDa s.2.1,ptDa s.2.2.1,.int s.2.2.2]
def SL (S : Step -> Prop) (H0 : Hp) (F : Addr) (st : List Step) (H : Hp) : Prop := ∃ vs,H F = some (.lst vs) /\ DaAs H vs (st.map stepDa) /\ Same H0 H /\ ∀ s ∈ st,S s
theorem SL.same {S : Step -> Prop} {H0 H : Hp} {F : Addr} {st : List Step} (L : SL S H0 F st H) : Same H0 H := let ⟨_,_,_,s,_⟩ := L; s
theorem SL.more {S : Step -> Prop} {H0 H H' : Hp} {F : Addr} {st : List Step} (L : SL S H0 F st H) (s : Same H H') : SL S H0 F st H' := let ⟨vs,e,d,s0,w⟩ := L; ⟨vs,s _ _ e,d.same s,s0.trans s,w⟩
section
variable {K : PySem.W.Frag} {D : Ends} {u : TS} {σ : St} {H0 H : Hp} {F : Addr} {st : List Step} {s : Step} {te : TE} {iF : Nat} {S : Step -> Prop}
theorem sl_app (hF0 : H0 F = none) (e : σ[iF]? = some (some (.ref F))) (L : SL S H0 F st H) (few : st.length <= 1000000) (sd : S s) (elt : TD te σ H (stepDa s)) (fin : ∀ H',Tups H H' -> SL S H0 F (st ++ [s]) H' -> D.nx σ H') : tDrop (tBM K "list" rAppend (tV iF) (tCons te tNil)) D σ H := by
 obtain ⟨vs,eF,d,s0,w0⟩ := L
 refine do_app2 e eF d (by rw [List.length_map]; exact few) elt fun H' ws kp sb ew dw => fin H' kp.tup ⟨ws,ew,?_,fun b o eb => sb b o (fun z => by rw [z,hF0] at eb; cases eb) (s0 b o eb),fun x hx => ?_⟩
 . rw [List.map_append]
   exact dw
 . rcases List.mem_append.mp hx with z | z
   . exact w0 x z
   . rw [List.mem_singleton.mp z]; exact sd
theorem sl_appS (hF0 : H0 F = none) (e : σ[iF]? = some (some (.ref F))) (L : SL S H0 F st H) (few : st.length <= 1000000) (sd : S s) (elt : TD te σ H (stepDa s)) (fin : ∀ H',Tups H H' -> SL S H0 F (st ++ [s]) H' -> u D σ H') : tSeq (tDrop (tBM K "list" rAppend (tV iF) (tCons te tNil))) u D σ H := sl_app (D := { D with nx := u D }) hF0 e L few sd elt fin
end
def In3 (p q : Option Str) (w : Int) (st : List Step) : Prop := ∃ l,(l,p,q,w) ∈ st
theorem In3.mono {p q : Option Str} {w : Int} {st : List Step} (h : In3 p q w st) (ex : List Step) : In3 p q w (st ++ ex) := let ⟨l,m⟩ := h; ⟨l,List.mem_append_left _ m⟩
theorem In3.last (l : Da) (p q : Option Str) (w : Int) (st : List Step) : In3 p q w (st ++ [(l,p,q,w)]) := ⟨l,by simp⟩
def RowIn (h : House) (r : Row) (st : List Step) : Prop := In3 none (some r.1) (r.2 - h.high) st /\ In3 (some r.1) none (h.low - r.2) st
def AdjIn (ns : List Str) (st : List Step) : Prop := ∀ (pre post : List Str) (a b : Str),ns = pre ++ a :: b :: post -> In3 (some a) (some b) 1 st
def PairIn (d : Int) (q r : Row) (st : List Step) : Prop := In3 (some q.1) (some r.1) (r.2 - q.2 - d) st /\ In3 (some r.1) (some q.1) (q.2 - r.2 - d) st
def PairsIn (d : Int) (rs : List Row) (st : List Step) : Prop := ∀ (i k : Nat) (q r : Row),i < k -> rs[i]? = some q -> rs[k]? = some r -> PairIn d q r st
def HouseIn (h : House) (st : List Step) : Prop := (∀ r ∈ rowsH h,RowIn h r st) /\ AdjIn (namesH h) st /\ ∀ r ∈ h.runs,PairsIn h.drift r st
def LetterIn (l : Letter) (st : List Step) : Prop := In3 (some l.1.1) (some l.1.2) l.2.1 st /\ ∀ z,l.2.2 = some z -> In3 (some l.1.2) (some l.1.1) (0 - z) st
def StepsOk (hs : List House) (ls : List Letter) (st : List Step) : Prop := (∀ h ∈ hs,HouseIn h st) /\ ∀ l ∈ ls,LetterIn l st
def Mono (P : List Step -> Prop) : Prop := ∀ st ex,P st -> P (st ++ ex)
theorem mono_row (h : House) (r : Row) : Mono (RowIn h r) := fun _ ex p => ⟨p.1.mono ex,p.2.mono ex⟩
theorem mono_adj (ns : List Str) : Mono (AdjIn ns) := fun _ ex p pre post a b e => (p pre post a b e).mono ex
theorem mono_pair (d : Int) (q r : Row) : Mono (PairIn d q r) := fun _ ex p => ⟨p.1.mono ex,p.2.mono ex⟩
theorem mono_pairs (d : Int) (rs : List Row) : Mono (PairsIn d rs) := fun _ ex p i k q r lt e1 e2 => mono_pair d q r _ ex (p i k q r lt e1 e2)
theorem mono_house (h : House) : Mono (HouseIn h) := fun _ ex p => ⟨fun r hr => mono_row h r _ ex (p.1 r hr),mono_adj _ _ ex p.2.1,fun r hr => mono_pairs _ _ _ ex (p.2.2 r hr)⟩
theorem mono_letter (l : Letter) : Mono (LetterIn l) := fun _ ex p => ⟨p.1.mono ex,fun z e => (p.2 z e).mono ex⟩
def P6 (hs : List House) (h : House) (i j k : Nat) (rs : List Row) : List Step -> Prop := fun st => ((∀ h' ∈ hs.take i,HouseIn h' st) /\ ∀ r ∈ h.runs.take j,PairsIn h.drift r st) /\ (∀ r' ∈ (h.runs.take j).flatten ++ rs.take (k + 1),RowIn h r' st) /\ AdjIn (((h.runs.take j).flatten ++ rs.take (k + 1)).map Prod.fst) st /\ PairsIn h.drift (rs.take k) st
theorem adjIn_snoc {ns : List Str} {n : Str} {st : List Step} (h : AdjIn ns st) (hl : ∀ a,ns.getLast? = some a -> In3 (some a) (some n) 1 st) : AdjIn (ns ++ [n]) st := by
 intro pre post a b e
 rcases List.eq_nil_or_concat post with rfl | ⟨post',z,rfl⟩
 . have e2 : ns ++ [n] = (pre ++ [a]) ++ [b] := by rw [e]; simp
   obtain ⟨e3,e4⟩ := List.append_inj_right' e2 rfl |> fun z => (⟨List.append_inj_left' e2 rfl,z⟩ : ns = pre ++ [a] /\ [n] = [b])
   cases e4
   exact hl a (by rw [e3,List.getLast?_concat])
 . have e2 : ns ++ [n] = (pre ++ a :: b :: post') ++ [z] := by rw [e]; simp
   exact h pre post' a b (List.append_inj_left' e2 rfl)
theorem pairsIn_snoc {d : Int} {rs : List Row} {r : Row} {st : List Step} (h : PairsIn d rs st) (hl : ∀ q ∈ rs,PairIn d q r st) : PairsIn d (rs ++ [r]) st := by
 intro i k q r2 lt e1 e2
 rcases Nat.lt_or_ge k rs.length with z | z
 . rw [List.getElem?_append_left z] at e2
   rw [List.getElem?_append_left (by omega)] at e1
   exact h i k q r2 lt e1 e2
 . rw [List.getElem?_append_right z] at e2
   have ek : k - rs.length = 0 := by
     rcases Nat.eq_zero_or_pos (k - rs.length) with w | w
     . exact w
     . rw [List.getElem?_eq_none (by simp; omega)] at e2; cases e2
   rw [ek] at e2
   cases e2
   rw [List.getElem?_append_left (by omega)] at e1
   exact hl q (List.mem_of_getElem? e1)
def pm (m : Str -> Int) : Option Str -> Int
 | none => 0
 | some n => m n
def Snd (hs : List House) (ls : List Letter) (s : Step) : Prop := ∀ m,placB hs ls m = true -> pm m s.2.1 + s.2.2.2 <= pm m s.2.2.1
theorem plac_keep {hs : List House} {ls : List Letter} {m : Str -> Int} {h : House} (e : placB hs ls m = true) (hh : h ∈ hs) : keepH h m = true := List.all_eq_true.mp (Bool.and_eq_true_iff.mp e).1 h hh
theorem snd_row {hs : List House} {ls : List Letter} {h : House} {r : Row} (hh : h ∈ hs) (hr : r ∈ rowsH h) (l l' : Da) : Snd hs ls (l,none,some r.1,r.2 - h.high) /\ Snd hs ls (l',some r.1,none,h.low - r.2) := by
 have k : ∀ m,placB hs ls m = true -> h.low <= r.2 - m r.1 /\ r.2 - m r.1 <= h.high := fun m e => by
   have z := (keep_parts.mp (plac_keep e hh)).1 r hr
   unfold rowB at z
   obtain ⟨z1,z2⟩ := Bool.and_eq_true_iff.mp z
   exact ⟨of_decide_eq_true z1,of_decide_eq_true z2⟩
 refine ⟨fun m e => ?_,fun m e => ?_⟩
 . have := k m e
   show (0 : Int) + (r.2 - h.high) <= m r.1
   omega
 . have := k m e
   show m r.1 + (h.low - r.2) <= (0 : Int)
   omega
theorem snd_next {hs : List House} {ls : List Letter} {h : House} {r : Row} {pre post : List Row} {b : Str} (hh : h ∈ hs) (e : rowsH h = pre ++ r :: post) (gl : (pre.map Prod.fst).getLast? = some b) (l : Da) : Snd hs ls (l,some b,some r.1,1) := fun m em => by
 have z := (keep_parts.mp (plac_keep em hh)).2.1
 have e4 : namesH h = (pre.map Prod.fst ++ [r.1]) ++ post.map Prod.fst := by
   show (rowsH h).map Prod.fst = _
   rw [e,List.map_append,List.map_cons]
   simp only [List.append_assoc,List.cons_append,List.nil_append]
 rw [e4] at z
 have z2 := adj_app m _ _ z
 rw [adj_snoc,gl] at z2
 obtain ⟨_,z3⟩ := Bool.and_eq_true_iff.mp z2
 have z4 : 1 <= m r.1 - m b := of_decide_eq_true z3
 show m b + 1 <= m r.1
 omega
theorem snd_pair {hs : List House} {ls : List Letter} {h : House} {rs : List Row} {q r : Row} (hh : h ∈ hs) (hr : rs ∈ h.runs) (hq : q ∈ rs) (hr2 : r ∈ rs) (l : Da) : Snd hs ls (l,some q.1,some r.1,r.2 - q.2 - h.drift) := fun m em => by
 have z := (keep_parts.mp (plac_keep em hh)).2.2 rs hr
 unfold driftB at z
 have z1 := of_decide_eq_true z _ (List.mem_map_of_mem (f := fun r => r.2 - m r.1) hr2) _ (List.mem_map_of_mem (f := fun r => r.2 - m r.1) hq)
 show m q.1 + (r.2 - q.2 - h.drift) <= m r.1
 omega
theorem snd_letter {hs : List House} {ls : List Letter} {l : Letter} (hl : l ∈ ls) (b : Da) : Snd hs ls (b,some l.1.1,some l.1.2,l.2.1) /\ ∀ z,l.2.2 = some z -> Snd hs ls (b,some l.1.2,some l.1.1,0 - z) := by
 have k : ∀ m,placB hs ls m = true -> keepL l m = true := fun m e => List.all_eq_true.mp (Bool.and_eq_true_iff.mp e).2 l hl
 refine ⟨fun m e => ?_,fun z ez m e => ?_⟩
 . have w := k m e
   unfold keepL at w
   have w1 : l.2.1 <= m l.1.2 - m l.1.1 := of_decide_eq_true (Bool.and_eq_true_iff.mp w).1
   show m l.1.1 + l.2.1 <= m l.1.2
   omega
 . have w := k m e
   unfold keepL at w
   rw [ez] at w
   have w1 : m l.1.2 - m l.1.1 <= z := of_decide_eq_true (Bool.and_eq_true_iff.mp w).2
   show m l.1.2 + (0 - z) <= m l.1.1
   omega
def spSteps : Sp := fun vs H Q _ => ∃ (x : V) (hs : List House) (ls : List Letter),vs = [x] /\ LedgerAt H x hs ls /\ GoodHouses hs /\ GoodLetters hs ls /\ ∀ (l : Addr) (st : List Step) (H' : Hp),H l = none -> SL (Snd hs ls) H l st H' -> StepsOk hs ls st -> st.length <= 1000000 -> Q (.ref l) H'
def PS1 (S : Step -> Prop) (x : V) (F : Addr) (hs : List House) (H : Hp) : Nat -> St -> Hp -> Prop := fun i σ H' => ∃ (st : List Step) (o2 o3 o4 o5 o6 o7 o8 o9 o10 o11 o12 o13 o14 o15 o16 o17 : Option V),σ = [some x,some (.ref F),o2,o3,o4,o5,o6,o7,o8,o9,o10,o11,o12,o13,o14,o15,o16,o17] /\ SL S H F st H' /\ st.length <= i * 33125 /\ ∀ h ∈ hs.take i,HouseIn h st
def PS2 (S : Step -> Prop) (x : V) (F : Addr) (h : House) (c5 : V) (P : List Step -> Prop) (B : Nat) (H : Hp) : Nat -> St -> Hp -> Prop := fun j σ H' => ∃ (st : List Step) (o8 o9 o10 o11 o12 o13 o14 o15 o16 o17 : Option V),σ = [some x,some (.ref F),some (.str h.name),some (.int h.low),some (.int h.high),some (.int h.drift),some c5,some (lastV ((h.runs.take j).flatten.map Prod.fst)),o8,o9,o10,o11,o12,o13,o14,o15,o16,o17] /\ SL S H F st H' /\ st.length <= B + j * 1325 /\ P st /\ (∀ r ∈ (h.runs.take j).flatten,RowIn h r st) /\ AdjIn ((h.runs.take j).flatten.map Prod.fst) st /\ ∀ r ∈ h.runs.take j,PairsIn h.drift r st
def PS3 (S : Step -> Prop) (x : V) (F : Addr) (h : House) (c5 v8 : V) (pre rs : List Row) (P : List Step -> Prop) (B : Nat) (H : Hp) : Nat -> St -> Hp -> Prop := fun k σ H' => ∃ (st : List Step) (o9 o10 o11 o12 o13 o14 o15 o16 o17 : Option V),σ = [some x,some (.ref F),some (.str h.name),some (.int h.low),some (.int h.high),some (.int h.drift),some c5,some (lastV ((pre ++ rs.take k).map Prod.fst)),some v8,o9,o10,o11,o12,o13,o14,o15,o16,o17] /\ SL S H F st H' /\ st.length <= B + k * 53 /\ P st /\ (∀ r ∈ pre ++ rs.take k,RowIn h r st) /\ AdjIn ((pre ++ rs.take k).map Prod.fst) st /\ PairsIn h.drift (rs.take k) st
def PS4 (S : Step -> Prop) (x : V) (F : Addr) (h : House) (c5 v8 : V) (k : Nat) (r : Row) (rs : List Row) (P : List Step -> Prop) (B : Nat) (H H4 : Hp) : Nat -> St -> Hp -> Prop := fun t σ H' => ∃ (st : List Step) (o12 o13 o14 o15 o16 o17 : Option V),σ = [some x,some (.ref F),some (.str h.name),some (.int h.low),some (.int h.high),some (.int h.drift),some c5,some (.str r.1),some v8,some (.int (0 + (k : Int))),some (.str r.1),some (.int r.2),o12,o13,o14,o15,o16,o17] /\ SL S H F st H' /\ Tups H4 H' /\ st.length <= B + t * 2 /\ P st /\ ∀ q ∈ (rs.take k).take t,PairIn h.drift q r st
def PS5 (S : Step -> Prop) (x : V) (F : Addr) (ls : List Letter) (P : List Step -> Prop) (B : Nat) (H : Hp) : Nat -> St -> Hp -> Prop := fun i σ H' => ∃ (st : List Step) (o2 o3 o4 o5 o6 o7 o8 o9 o10 o11 o12 o13 o14 o15 o16 o17 : Option V),σ = [some x,some (.ref F),o2,o3,o4,o5,o6,o7,o8,o9,o10,o11,o12,o13,o14,o15,o16,o17] /\ SL S H F st H' /\ st.length <= B + i * 2 /\ P st /\ ∀ l ∈ ls.take i,LetterIn l st
section
variable {P : Program} {w : World} {K : PySem.W.Frag} {mg : Str -> Option Value} {base : Heap} {t8 : Tok}
theorem sc_steps : FnScope ["_law_ledger_here","_law_found","_law_name","_law_low","_law_high","_law_drift","_law_runs","_law_behind","_law_run","_law_k","_law_row","_law_reading","_law_ahead","_law_other","_law_sent","_law_taken","_law_least","_law_most"] ["_law_ledger_here"] (defScope sSteps) := ⟨rfl,rfl,rfl,by decide +kernel,rfl,by decide +kernel,by decide +kernel⟩
theorem ok_steps {f : Addr} {fd : FuncData} (F : Fun K "_law_steps" "_law_steps" sSteps f fd) (T : Txt mg t8) : FnOk P w K mg base CX0 1 f fd ["_law_ledger_here"] spSteps := by
 refine F.ok sc_steps (fun vs H Q E h => ?_) (fun cdv A outer s H vs Q E hr h => ?_)
 . obtain ⟨x,hs,ls,rfl,_⟩ := h
   rfl
 . obtain ⟨x,hs,ls,rfl,hx,gh,gl,q⟩ := h
   have sl0 : sizeLine = 16777216 := sizeLine_eq
   refine ⟨_,(pss_cons (ps_set (i := 1) sc_steps.nd rfl (Or.inl rfl) (pe_lst pa_nil)) (pss_cons (ps_for PassesOwn.never rfl (pi_tup (pe_ix iIxT (pV 0) pe_int (fun _ _ => rfl))) (pg_tup rfl (pgs_cons (pg_name (i := 2) sc_steps.nd rfl (Or.inl rfl)) (pgs_cons (pg_name (i := 3) sc_steps.nd rfl (Or.inl rfl)) (pgs_cons (pg_name (i := 4) sc_steps.nd rfl (Or.inl rfl)) (pgs_cons (pg_name (i := 5) sc_steps.nd rfl (Or.inl rfl)) (pgs_cons (pg_name (i := 6) sc_steps.nd rfl (Or.inl rfl)) pgs_nil)))))) (pss_cons (ps_set (i := 7) sc_steps.nd rfl (Or.inl rfl) pe_non) (pss_one (ps_for PassesOwn.never rfl (pi_tup (pV 6)) (pg_name (i := 8) sc_steps.nd rfl (Or.inl rfl)) (pss_one (ps_for PassesOwn.never rfl (pi_range1 rfl T.range (pa_cons (pe_callB call_len_seq rfl T.len PySem.boot_len (pa_cons (pV 8) pa_nil)) pa_nil)) (pg_name (i := 9) sc_steps.nd rfl (Or.inl rfl)) (pss_cons (ps_asg (pe_ix iIxT (pV 8) (pV 9) (fun _ _ => rfl)) (pg_tup rfl (pgs_cons (pg_name (i := 10) sc_steps.nd rfl (Or.inl rfl)) (pgs_cons (pg_name (i := 11) sc_steps.nd rfl (Or.inl rfl)) pgs_nil)))) (pss_cons (ps_expr (pe_bm PySem.F.plainAttrs_list PySem.F.slot_list_append PySem.F.type_list_append mt_append (pV 1) (pa_cons (pe_tup (pa_cons (pe_tup (pa_cons pe_str (pa_cons (pV 10) pa_nil))) (pa_cons pe_non (pa_cons (pV 10) (pa_cons (pe_op oSub (pV 11) (pV 4)) pa_nil))))) pa_nil))) (pss_cons (ps_expr (pe_bm PySem.F.plainAttrs_list PySem.F.slot_list_append PySem.F.type_list_append mt_append (pV 1) (pa_cons (pe_tup (pa_cons (pe_tup (pa_cons pe_str (pa_cons (pV 10) pa_nil))) (pa_cons (pV 10) (pa_cons pe_non (pa_cons (pe_op oSub (pV 3) (pV 11)) pa_nil))))) pa_nil))) (pss_cons (ps_if (pt_cmp (pc_notN (pV 7))) (pss_one (ps_expr (pe_bm PySem.F.plainAttrs_list PySem.F.slot_list_append PySem.F.type_list_append mt_append (pV 1) (pa_cons (pe_tup (pa_cons (pe_tup (pa_cons pe_str (pa_cons (pV 7) (pa_cons (pV 10) pa_nil)))) (pa_cons (pV 7) (pa_cons (pV 10) (pa_cons pe_int pa_nil))))) pa_nil)))) pss_nil) (pss_cons (ps_set (i := 7) sc_steps.nd rfl (Or.inl rfl) (pV 10)) (pss_one (ps_for PassesOwn.never rfl (pi_tup (pe_slice iSlA (pV 8) po_none (poI (pV 9)))) (pg_tup rfl (pgs_cons (pg_name (i := 12) sc_steps.nd rfl (Or.inl rfl)) (pgs_cons (pg_name (i := 13) sc_steps.nd rfl (Or.inl rfl)) pgs_nil))) (pss_cons (ps_expr (pe_bm PySem.F.plainAttrs_list PySem.F.slot_list_append PySem.F.type_list_append mt_append (pV 1) (pa_cons (pe_tup (pa_cons (pe_tup (pa_cons pe_str (pa_cons (pV 12) (pa_cons (pV 10) pa_nil)))) (pa_cons (pV 12) (pa_cons (pV 10) (pa_cons (pe_op oSub (pe_op oSub (pV 11) (pV 13)) (pV 5)) pa_nil))))) pa_nil))) (pss_one (ps_expr (pe_bm PySem.F.plainAttrs_list PySem.F.slot_list_append PySem.F.type_list_append mt_append (pV 1) (pa_cons (pe_tup (pa_cons (pe_tup (pa_cons pe_str (pa_cons (pV 12) (pa_cons (pV 10) pa_nil)))) (pa_cons (pV 10) (pa_cons (pV 12) (pa_cons (pe_op oSub (pe_op oSub (pV 13) (pV 11)) (pV 5)) pa_nil))))) pa_nil)))))))))))))))))) (pss_cons (ps_for PassesOwn.never rfl (pi_range1 rfl T.range (pa_cons (pe_callB call_len_seq rfl T.len PySem.boot_len (pa_cons (pe_ix iIxT (pV 0) pe_int (fun _ _ => rfl)) pa_nil)) pa_nil)) (pg_name (i := 9) sc_steps.nd rfl (Or.inl rfl)) (pss_cons (ps_asg (pe_ix iIxT (pe_ix iIxT (pV 0) pe_int (fun _ _ => rfl)) (pV 9) (fun _ _ => rfl)) (pg_tup rfl (pgs_cons (pg_name (i := 14) sc_steps.nd rfl (Or.inl rfl)) (pgs_cons (pg_name (i := 15) sc_steps.nd rfl (Or.inl rfl)) (pgs_cons (pg_name (i := 16) sc_steps.nd rfl (Or.inl rfl)) (pgs_cons (pg_name (i := 17) sc_steps.nd rfl (Or.inl rfl)) pgs_nil)))))) (pss_cons (ps_expr (pe_bm PySem.F.plainAttrs_list PySem.F.slot_list_append PySem.F.type_list_append mt_append (pV 1) (pa_cons (pe_tup (pa_cons (pe_tup (pa_cons pe_str (pa_cons (pV 9) pa_nil))) (pa_cons (pV 14) (pa_cons (pV 15) (pa_cons (pV 16) pa_nil))))) pa_nil))) (pss_one (ps_if (pt_cmp (pc_notN (pV 17))) (pss_one (ps_expr (pe_bm PySem.F.plainAttrs_list PySem.F.slot_list_append PySem.F.type_list_append mt_append (pV 1) (pa_cons (pe_tup (pa_cons (pe_tup (pa_cons pe_str (pa_cons (pV 9) pa_nil))) (pa_cons (pV 15) (pa_cons (pV 14) (pa_cons (pe_op oSub pe_int (pV 17)) pa_nil))))) pa_nil)))) pss_nil))))) (pss_one (ps_ret (pV 1)))))),?_⟩
   obtain ⟨ca,y,z,rfl,hca,hH,hL⟩ := hx
   obtain ⟨cy,vy,rfl,hcy,py⟩ := hH
   obtain ⟨cz,vz,rfl,hcz,pz⟩ := hL
   refine ⟨Nat.zero_le _,fun F hF => ?_⟩
   have L0 : SL (Snd hs ls) H F [] (upd H F (.lst [])) := ⟨[],upd_same,.nil,(Same.refl H).upd hF,fun s hs => by simp at hs⟩
   generalize upd H F (.lst []) = H0 at L0 ⊢
   refine ixTup (SqT.of (L0.same _ _ hca)) (i := 0) (v := .ref cy) (by rfl) ?_
   refine ⟨cy,rfl,⟨_,SqT.of (L0.same _ _ hcy)⟩,for_tup (xs := vy) (PS1 (Snd hs ls) (.ref ca) F hs H) ⟨[],none,none,none,none,none,none,none,none,none,none,none,none,none,none,none,none,rfl,L0,Nat.zero_le _,fun h hh => by simp at hh⟩ (fun i σ H' _ hz => by obtain ⟨st,_o2,_o3,_o4,_o5,_o6,_o7,_o8,_o9,_o10,_o11,_o12,_o13,_o14,_o15,_o16,_o17,_,L,_⟩ := hz; exact SqT.of (L.same _ _ hcy)) (fun i v σ H1 hv hz => ?_) (fun σ H1 hz => ?_)⟩
   . obtain ⟨st1,o2,o3,o4,o5,o6,o7,o8,o9,o10,o11,o12,o13,o14,o15,o16,o17,rfl,L1,len1,k1⟩ := hz
     obtain ⟨h,hhi,c,bb,rfl,hc,c5,vr,rfl,hc5,pr⟩ := paired_getL py hv
     have hmem := List.mem_of_getElem? hhi
     have gd := gh.all h hmem
     have ilt : i < hs.length := (List.getElem?_eq_some_iff.mp hhi).1
     have i6 := gh.hi
     have r25 := gd.few
     refine ⟨c,_,rfl,SqT.of (L1.same _ _ hc),rfl,_,_,rfl,_,_,rfl,_,_,rfl,_,_,rfl,_,_,rfl,rfl,?_⟩
     refine ⟨c5,rfl,⟨_,SqT.of (L1.same _ _ hc5)⟩,for_tup (xs := vr) (PS2 (Snd hs ls) (.ref ca) F h (.ref c5) (fun st => ∀ h' ∈ hs.take i,HouseIn h' st) (i * 33125) H) ⟨st1,_,_,_,_,_,_,_,_,_,_,rfl,L1,by omega,k1,fun r hr => by simp at hr,fun pre post a b e => by simp at e,fun r hr => by simp at hr⟩ (fun j σ H' _ hz => by obtain ⟨st,_o8,_o9,_o10,_o11,_o12,_o13,_o14,_o15,_o16,_o17,_,L,_⟩ := hz; exact SqT.of (L.same _ _ hc5)) (fun j v8 σ H2 hv8 hz => ?_) (fun σ H2 hz => ?_)⟩
     . obtain ⟨st2,o8,o9,o10,o11,o12,o13,o14,o15,o16,o17,rfl,L2,len2,p2,row2,adj2,pai2⟩ := hz
       obtain ⟨rs,hrs,c8,ws,rfl,hc8,pw⟩ := paired_getL pr hv8
       have rmem := List.mem_of_getElem? hrs
       have gr := gd.runs rs rmem
       have lw := pw.length
       have few := gr.few
       have jlt : j < h.runs.length := (List.getElem?_eq_some_iff.mp hrs).1
       refine ⟨c8,ws,rfl,.inr (SqT.of (L2.same _ _ hc8)),?_⟩
       refine ⟨(ws.length : Int),rfl,by omega,by omega,for_range (lo := 0) (n := (ws.length : Int).toNat) (PS3 (Snd hs ls) (.ref ca) F h (.ref c5) (.ref c8) (h.runs.take j).flatten rs (fun st => (∀ h' ∈ hs.take i,HouseIn h' st) /\ ∀ r ∈ h.runs.take j,PairsIn h.drift r st) (i * 33125 + j * 1325) H) ⟨st2,_,_,_,_,_,_,_,_,_,by rw [List.take_zero,List.append_nil]; rfl,L2,by omega,⟨p2,pai2⟩,by rw [List.take_zero,List.append_nil]; exact row2,by rw [List.take_zero,List.append_nil]; exact adj2,fun i k q r lt e1 => by simp at e1⟩ (fun k σ H3 hk hz => ?_) (fun σ H3 hz => ?_)⟩
       . obtain ⟨st3,o9,o10,o11,o12,o13,o14,o15,o16,o17,rfl,L3,len3,p3,row3,adj3,pai3⟩ := hz
         have hk' : k < ws.length := by omega
         obtain ⟨vk,hvk⟩ : ∃ v,ws[k]? = some v := ⟨_,List.getElem?_eq_getElem hk'⟩
         obtain ⟨r,hrk,cr,rfl,hcr⟩ := paired_getL pw hvk
         have hrm := List.mem_of_getElem? hrk
         have inh : r ∈ rowsH h := List.mem_flatten.mpr ⟨rs,rmem,hrm⟩
         have preH : ∃ post,rowsH h = ((h.runs.take j).flatten ++ rs.take k) ++ (r :: post) := by
           refine ⟨rs.drop (k + 1) ++ (h.runs.drop (j + 1)).flatten,?_⟩
           have e1 : h.runs = h.runs.take j ++ (rs :: h.runs.drop (j + 1)) := by
             obtain ⟨li,fi⟩ := List.getElem?_eq_some_iff.mp hrs
             rw [<- fi,List.getElem_cons_drop,List.take_append_drop]
           have e2 : rs = rs.take k ++ (r :: rs.drop (k + 1)) := by
             obtain ⟨li,fi⟩ := List.getElem?_eq_some_iff.mp hrk
             rw [<- fi,List.getElem_cons_drop,List.take_append_drop]
           unfold rowsH
           conv => lhs; rw [e1]
           rw [List.flatten_append,List.flatten_cons]
           conv => lhs; rw [e2]
           simp only [List.append_assoc,List.cons_append]
         have gn : ∀ {H' : Hp},DaAt H' (.str r.1) (.str r.1) := (gr.names r hrm).da
         have row9 : rs.take (k + 1) = rs.take k ++ [r] := by rw [List.take_add_one,hrk]; rfl
         have ens : ((h.runs.take j).flatten ++ rs.take (k + 1)).map Prod.fst = ((h.runs.take j).flatten ++ rs.take k).map Prod.fst ++ [r.1] := by
           rw [row9,<- List.append_assoc,List.map_append]; rfl
         refine ixTup (SqT.of (L3.same _ _ hc8)) (i := 0 + (k : Int)) (v := .ref cr) (by rw [Int.zero_add]; exact atI_nat hvk) ?_
         refine ⟨cr,_,rfl,SqT.of (L3.same _ _ hcr),rfl,_,_,rfl,_,_,rfl,rfl,?_⟩
         dsimp only
         refine sl_appS (s := (_,none,some r.1,r.2 - h.high)) hF rfl L3 (by omega) (snd_row hmem inh _ .non).1 (td_tup (tds_cons (td_tup (tds_cons (td_str (by decide +kernel)) (tds_cons (td_v10 gn) tds_nil)) (by exact Nat.le_of_ble_eq_true rfl)) (tds_cons td_non (tds_cons (td_v10 gn) (tds_cons (td_sub (td_v11 (.int _)) (td_v4 (.int _))) tds_nil)))) (by exact Nat.le_of_ble_eq_true rfl)) fun H4 _ L4 => ?_
         refine sl_appS (s := (_,some r.1,none,h.low - r.2)) hF rfl L4 (by rw [List.length_append]; show _ + 1 <= _; omega) (snd_row hmem inh .non _).2 (td_tup (tds_cons (td_tup (tds_cons (td_str (by decide +kernel)) (tds_cons (td_v10 gn) tds_nil)) (by exact Nat.le_of_ble_eq_true rfl)) (tds_cons (td_v10 gn) (tds_cons td_non (tds_cons (td_sub (td_v3 (.int _)) (td_v11 (.int _))) tds_nil)))) (by exact Nat.le_of_ble_eq_true rfl)) fun H5 _ L5 => ?_
         have mem5 : ∀ P : List Step -> Prop,Mono P -> P st3 -> ∀ ex,P ((st3 ++ [(Da.tup [.str "early",.str r.1],none,some r.1,r.2 - h.high)] ++ [(Da.tup [.str "late",.str r.1],some r.1,none,h.low - r.2)]) ++ ex) := fun P mP p ex => mP _ ex (mP _ _ (mP _ _ p))
         have row5 : ∀ ex,RowIn h r ((st3 ++ [(Da.tup [.str "early",.str r.1],none,some r.1,r.2 - h.high)] ++ [(Da.tup [.str "late",.str r.1],some r.1,none,h.low - r.2)]) ++ ex) := fun ex => mono_row h r _ ex ⟨(In3.last _ _ _ _ _).mono _,In3.last _ _ _ _ _⟩
         have len5 : (st3 ++ [(Da.tup [.str "early",.str r.1],none,some r.1,r.2 - h.high)] ++ [(Da.tup [.str "late",.str r.1],some r.1,none,h.low - r.2)]).length = st3.length + 2 := by simp
         have L5' : SL (Snd hs ls) H F (st3 ++ [(Da.tup [.str "early",.str r.1],none,some r.1,r.2 - h.high)] ++ [(Da.tup [.str "late",.str r.1],some r.1,none,h.low - r.2)]) H5 := L5
         clear L5
         generalize st3 ++ [(Da.tup [.str "early",.str r.1],none,some r.1,r.2 - h.high)] ++ [(Da.tup [.str "late",.str r.1],some r.1,none,h.low - r.2)] = st5 at mem5 row5 len5 L5'
         refine if_join (fun σ' H' => ∃ (L : V) (ex : List Step),σ' = [some (.ref ca),some (.ref F),some (.str h.name),some (.int h.low),some (.int h.high),some (.int h.drift),some (.ref c5),some L,some (.ref c8),some (.int (0 + (k : Int))),some (.str r.1),some (.int r.2),o12,o13,o14,o15,o16,o17] /\ SL (Snd hs ls) H F (st5 ++ ex) H' /\ ex.length <= 1 /\ ∀ a,(((h.runs.take j).flatten ++ rs.take k).map Prod.fst).getLast? = some a -> In3 (some a) (some r.1) 1 (st5 ++ ex)) (fun U hU => ?_) (fun σ' H' hN => ?_)
         . refine ⟨_,rfl,?_⟩
           cases gl' : (((h.runs.take j).flatten ++ rs.take k).map Prod.fst).getLast? with
           | none =>
             have eL : lastV (((h.runs.take j).flatten ++ rs.take k).map Prod.fst) = .non := by unfold lastV; rw [gl']
             rw [eL]
             exact hU _ _ ⟨.non,[],rfl,by rw [List.append_nil]; exact L5',Nat.zero_le _,fun a e => by rw [gl'] at e; cases e⟩
           | some b =>
             have eL : lastV (((h.runs.take j).flatten ++ rs.take k).map Prod.fst) = .str b := by unfold lastV; rw [gl']
             rw [eL]
             have gb : ∀ {H' : Hp},DaAt H' (.str b) (.str b) := by
               intro H'
               obtain ⟨r',hr',rfl⟩ := List.mem_map.mp (List.mem_of_getLast? gl')
               have hin : r' ∈ rowsH h := by
                 rcases List.mem_append.mp hr' with z | z
                 . obtain ⟨q',hq',hr2⟩ := List.mem_flatten.mp z
                   exact List.mem_flatten.mpr ⟨q',List.mem_of_mem_take hq',hr2⟩
                 . exact List.mem_flatten.mpr ⟨rs,rmem,List.mem_of_mem_take z⟩
               obtain ⟨q',hq',hr2⟩ := List.mem_flatten.mp hin
               exact ((gd.runs q' hq').names r' hr2).da
             refine sl_app (s := (_,some b,some r.1,1)) hF rfl L5' (by omega) (by obtain ⟨post,ep⟩ := preH; exact snd_next hmem ep gl' _) (td_tup (tds_cons (td_tup (tds_cons (td_str (by decide +kernel)) (tds_cons (td_v7 gb) (tds_cons (td_v10 gn) tds_nil))) (by exact Nat.le_of_ble_eq_true rfl)) (tds_cons (td_v7 gb) (tds_cons (td_v10 gn) (tds_cons td_int tds_nil)))) (by exact Nat.le_of_ble_eq_true rfl)) fun H6 _ L6 => ?_
             exact hU _ _ ⟨.str b,_,rfl,L6,Nat.le_refl _,fun a e => by rw [gl'] at e; cases e; exact In3.last _ _ _ _ _⟩
         . obtain ⟨L,ex,rfl,L6,lex,nxt⟩ := hN
           have mem6 : ∀ P : List Step -> Prop,Mono P -> P st3 -> P (st5 ++ ex) := fun P mP p => mem5 P mP p ex
           have row6 := row5 ex
           have len6 : (st5 ++ ex).length <= st3.length + 3 := by rw [List.length_append]; omega
           clear mem5 row5 len5 L5'
           generalize st5 ++ ex = st6 at mem6 row6 len6 L6 nxt
           refine ⟨⟨c8,ws,rfl,L6.same _ _ hc8,fun p H7 ep s7 => ?_⟩⟩
           rw [Int.zero_add,cut_to (by omega)] at ep
           have L7 := L6.more s7
           have inv6 : (P6 hs h i j k rs) st6 := by
             refine ⟨⟨fun h' hh' => mem6 _ (mono_house h') (p3.1 h' hh'),fun r' hr' => mem6 _ (mono_pairs _ r') (p3.2 r' hr')⟩,fun r' hr' => ?_,?_,mem6 _ (mono_pairs _ _) pai3⟩
             . rw [row9,<- List.append_assoc] at hr'
               rcases List.mem_append.mp hr' with z | z
               . exact mem6 _ (mono_row h r') (row3 r' z)
               . rw [List.mem_singleton.mp z]; exact row6
             . rw [ens]
               exact adjIn_snoc (mem6 _ (mono_adj _) adj3) nxt
           have minv : Mono (P6 hs h i j k rs) := fun _ ex p => ⟨⟨fun h' hh' => mono_house h' _ ex (p.1.1 h' hh'),fun r' hr' => mono_pairs _ r' _ ex (p.1.2 r' hr')⟩,fun r' hr' => mono_row h r' _ ex (p.2.1 r' hr'),mono_adj _ _ ex p.2.2.1,mono_pairs _ _ _ ex p.2.2.2⟩
           refine ⟨p,rfl,⟨_,SqT.of ep⟩,for_tup (xs := ws.take k) (PS4 (Snd hs ls) (.ref ca) F h (.ref c5) (.ref c8) k r rs (P6 hs h i j k rs) (i * 33125 + j * 1325 + k * 53 + 3) H H7) ⟨st6,_,_,_,_,_,_,rfl,L7,fun _ _ e => e,by omega,inv6,fun q hq => by simp at hq⟩ (fun t σ H' _ hz => ?_) (fun t v σ H8 hv hz => ?_) (fun σ H8 hz => ?_)⟩
           . obtain ⟨st,_o12,_o13,_o14,_o15,_o16,_o17,_,_,s',_⟩ := hz
             exact SqT.of (s' _ _ ep)
           . obtain ⟨st8,o12,o13,o14,o15,o16,o17,rfl,L8,s8,len8,inv8,pk⟩ := hz
             have lt : t < k := by
               have z := (List.getElem?_eq_some_iff.mp hv).1
               rw [List.length_take] at z
               omega
             rw [List.getElem?_take_of_lt lt] at hv
             obtain ⟨q',hqt,cq,rfl,hcq⟩ := paired_getL pw hv
             have hqm := List.mem_of_getElem? hqt
             have gq : ∀ {H' : Hp},DaAt H' (.str q'.1) (.str q'.1) := (gr.names q' hqm).da
             refine ⟨cq,_,rfl,SqT.of (L8.same _ _ hcq),rfl,_,_,rfl,_,_,rfl,rfl,?_⟩
             refine sl_appS (s := (_,some q'.1,some r.1,r.2 - q'.2 - h.drift)) hF rfl L8 (by omega) (snd_pair hmem rmem hqm hrm _) (td_tup (tds_cons (td_tup (tds_cons (td_str (by decide +kernel)) (tds_cons (td_v12 gq) (tds_cons (td_v10 gn) tds_nil))) (by exact Nat.le_of_ble_eq_true rfl)) (tds_cons (td_v12 gq) (tds_cons (td_v10 gn) (tds_cons (td_sub (td_sub (td_v11 (.int _)) (td_v13 (.int _))) (td_v5 (.int _))) tds_nil)))) (by exact Nat.le_of_ble_eq_true rfl)) fun H9 t9 L9 => ?_
             refine sl_app (s := (_,some r.1,some q'.1,q'.2 - r.2 - h.drift)) hF rfl L9 (by rw [List.length_append]; show _ + 1 <= _; omega) (snd_pair hmem rmem hrm hqm _) (td_tup (tds_cons (td_tup (tds_cons (td_str (by decide +kernel)) (tds_cons (td_v12 gq) (tds_cons (td_v10 gn) tds_nil))) (by exact Nat.le_of_ble_eq_true rfl)) (tds_cons (td_v10 gn) (tds_cons (td_v12 gq) (tds_cons (td_sub (td_sub (td_v13 (.int _)) (td_v11 (.int _))) (td_v5 (.int _))) tds_nil)))) (by exact Nat.le_of_ble_eq_true rfl)) fun H10 t10 L10 => ?_
             refine ⟨_,_,_,_,_,_,_,rfl,L10,?_,by rw [List.length_append,List.length_append]; show _ + 1 + 1 <= _; omega,minv _ _ (minv _ _ inv8),fun q2 hq2 => ?_⟩
             . exact fun b xs e => t10 _ _ (t9 _ _ (s8 _ _ e))
             . have e5 : (rs.take k)[t]? = some q' := by rw [List.getElem?_take_of_lt lt]; exact hqt
               rw [List.take_add_one,e5] at hq2
               rcases List.mem_append.mp hq2 with z | z
               . exact mono_pair _ _ _ _ _ (mono_pair _ _ _ _ _ (pk q2 z))
               . rw [show q2 = q' from by simpa using z]
                 exact ⟨(In3.last _ _ _ _ _).mono _,In3.last _ _ _ _ _⟩
           . obtain ⟨st8,o12,o13,o14,o15,o16,o17,rfl,L8,s8,len8,inv8,pk⟩ := hz
             have e5 : (rs.take k).take (ws.take k).length = rs.take k := List.take_of_length_le (by rw [List.length_take,List.length_take]; omega)
             rw [e5] at pk
             have l5 : (ws.take k).length <= 25 := by rw [List.length_take]; omega
             refine ⟨st8,_,_,_,_,_,_,_,_,_,by rw [ens,lastV_snoc],L8,by omega,inv8.1,inv8.2.1,inv8.2.2.1,?_⟩
             rw [row9]
             exact pairsIn_snoc inv8.2.2.2 pk
       . obtain ⟨st3,o9,o10,o11,o12,o13,o14,o15,o16,o17,rfl,L3,len3,p3,row3,adj3,pai3⟩ := hz
         have e1 : rs.take (ws.length : Int).toNat = rs := List.take_of_length_le (by omega)
         rw [e1] at row3 adj3 pai3
         have e2 : (h.runs.take (j + 1)) = h.runs.take j ++ [rs] := by rw [List.take_add_one,hrs]; rfl
         have e3 : (h.runs.take (j + 1)).flatten = (h.runs.take j).flatten ++ rs := by rw [e2,List.flatten_append]; simp
         refine ⟨st3,_,_,_,_,_,_,_,_,_,_,by rw [e1,e3],L3,by omega,p3.1,by rw [e3]; exact row3,by rw [e3]; exact adj3,fun r hr => ?_⟩
         rw [e2] at hr
         rcases List.mem_append.mp hr with z | z
         . exact p3.2 r z
         . rw [List.mem_singleton.mp z]; exact pai3
     . obtain ⟨st2,o8,o9,o10,o11,o12,o13,o14,o15,o16,o17,rfl,L2,len2,p2,row2,adj2,pai2⟩ := hz
       have lr := pr.length
       have e1 : h.runs.take vr.length = h.runs := List.take_of_length_le (by omega)
       rw [e1] at row2 adj2 pai2
       refine ⟨st2,_,_,_,_,_,_,_,_,_,_,_,_,_,_,_,_,rfl,L2,by omega,fun k hk => ?_⟩
       rw [List.take_add_one,hhi] at hk
       rcases List.mem_append.mp hk with z | z
       . exact p2 k z
       . rw [show k = h from by simpa using z]
         exact ⟨row2,adj2,pai2⟩
   . obtain ⟨st1,o2,o3,o4,o5,o6,o7,o8,o9,o10,o11,o12,o13,o14,o15,o16,o17,rfl,L1,len1,k1⟩ := hz
     have ly := py.length
     have i6 := gh.hi
     have e1 : hs.take vy.length = hs := List.take_of_length_le (by omega)
     rw [e1] at k1
     refine ixTup (SqT.of (L1.same _ _ hca)) (i := 1) (v := .ref cz) (by rfl) ?_
     refine ⟨cz,vz,rfl,.inr (SqT.of (L1.same _ _ hcz)),?_⟩
     have lz := pz.length
     have l24 := gl.few
     refine ⟨(vz.length : Int),rfl,by omega,by omega,for_range (lo := 0) (n := (vz.length : Int).toNat) (PS5 (Snd hs ls) (.ref ca) F ls (fun st => ∀ h ∈ hs,HouseIn h st) (6 * 33125) H) ⟨st1,_,_,_,_,_,_,_,_,_,_,_,_,_,_,_,_,rfl,L1,by omega,k1,fun l hl => by simp at hl⟩ (fun k σ H2 hk hz => ?_) (fun σ H2 hz => ?_)⟩
     . obtain ⟨st2,o2,o3,o4,o5,o6,o7,o8,o9,o10,o11,o12,o13,o14,o15,o16,o17,rfl,L2,len2,p2,k2⟩ := hz
       have hk' : k < vz.length := by omega
       obtain ⟨vk,hvk⟩ : ∃ v,vz[k]? = some v := ⟨_,List.getElem?_eq_getElem hk'⟩
       obtain ⟨l,hli,cl,rfl,hcl⟩ := paired_getL pz hvk
       have hmem := List.mem_of_getElem? hli
       have gs : ∀ {H' : Hp},DaAt H' (.str l.1.1) (.str l.1.1) := (gl.all l hmem).sent.da
       have gt : ∀ {H' : Hp},DaAt H' (.str l.1.2) (.str l.1.2) := (gl.all l hmem).taken.da
       refine ixTup (SqT.of (L2.same _ _ hca)) (i := 1) (v := .ref cz) (by rfl) ?_
       refine ixTup (SqT.of (L2.same _ _ hcz)) (i := 0 + (k : Int)) (v := .ref cl) (by rw [Int.zero_add]; exact atI_nat hvk) ?_
       refine ⟨cl,_,rfl,SqT.of (L2.same _ _ hcl),rfl,_,_,rfl,_,_,rfl,_,_,rfl,_,_,rfl,rfl,?_⟩
       dsimp only
       refine sl_appS (s := (_,some l.1.1,some l.1.2,l.2.1)) hF rfl L2 (by omega) (snd_letter hmem _).1 (td_tup (tds_cons (td_tup (tds_cons (td_str (by decide +kernel)) (tds_cons (td_v9 (.int _)) tds_nil)) (by exact Nat.le_of_ble_eq_true rfl)) (tds_cons (td_v14 gs) (tds_cons (td_v15 gt) (tds_cons (td_v (k := 16) rfl (.int _)) tds_nil)))) (by exact Nat.le_of_ble_eq_true rfl)) fun H3 _ L3 => ?_
       have fin : ∀ (st : List Step) (H' : Hp),SL (Snd hs ls) H F st H' -> (∀ P : List Step -> Prop,Mono P -> P st2 -> P st) -> st.length <= st2.length + 2 -> LetterIn l st -> PS5 (Snd hs ls) (.ref ca) F ls (fun st => ∀ h ∈ hs,HouseIn h st) (6 * 33125) H (k + 1) [some (.ref ca),some (.ref F),o2,o3,o4,o5,o6,o7,o8,some (.int (0 + (k : Int))),o10,o11,o12,o13,some (.str l.1.1),some (.str l.1.2),some (.int l.2.1),some (mostV l.2.2)] H' := fun st H' LL mm ln li => by
         refine ⟨st,_,_,_,_,_,_,_,_,_,_,_,_,_,_,_,_,rfl,LL,by omega,fun h hh => mm _ (mono_house h) (p2 h hh),fun l' hl' => ?_⟩
         rw [List.take_add_one,hli] at hl'
         rcases List.mem_append.mp hl' with z | z
         . exact mm _ (mono_letter l') (k2 l' z)
         . rw [show l' = l from by simpa using z]; exact li
       obtain ⟨⟨se,ta⟩,le,mst⟩ := l
       cases mst with
       | none =>
         refine ⟨_,rfl,?_⟩
         exact fin _ _ L3 (fun P mP p => mP _ _ p) (by rw [List.length_append]; show _ + 1 <= _; omega) ⟨In3.last _ _ _ _ _,fun z e => by cases e⟩
       | some y =>
         refine ⟨_,rfl,?_⟩
         refine sl_app (s := (_,some ta,some se,0 - y)) hF rfl L3 (by rw [List.length_append]; show _ + 1 <= _; omega) ((snd_letter hmem _).2 y rfl) (td_tup (tds_cons (td_tup (tds_cons (td_str (by decide +kernel)) (tds_cons (td_v9 (.int _)) tds_nil)) (by exact Nat.le_of_ble_eq_true rfl)) (tds_cons (td_v15 gt) (tds_cons (td_v14 gs) (tds_cons (td_sub td_int (td_v (k := 17) rfl (.int _))) tds_nil)))) (by exact Nat.le_of_ble_eq_true rfl)) fun H4 _ L4 => ?_
         exact fin _ _ L4 (fun P mP p => mP _ _ (mP _ _ p)) (by rw [List.length_append,List.length_append]; show _ + 1 + 1 <= _; omega) ⟨(In3.last _ _ _ _ _).mono _,fun z e => by cases e; exact In3.last _ _ _ _ _⟩
     . obtain ⟨st2,o2,o3,o4,o5,o6,o7,o8,o9,o10,o11,o12,o13,o14,o15,o16,o17,rfl,L2,len2,p2,k2⟩ := hz
       have e2 : ls.take (vz.length : Int).toNat = ls := List.take_of_length_le (by omega)
       rw [e2] at k2
       exact q F st2 H2 hF L2 ⟨p2,k2⟩ (by omega)
end
end K04
namespace K04
open PySem L2 K02
def pk : Option Str -> Key
 | none => .inl none
 | some n => .inr n
theorem kV_pk (p : Option Str) : kV (pk p) = ptV p := by cases p <;> rfl
theorem pk_inj {p q : Option Str} (h : pk p = pk q) : p = q := by
 cases p <;> cases q <;> first | rfl | (cases h; rfl) | cases h
abbrev PD := Fw.D (Option Str)
def DT (H : Hp) (F : Addr) (d : PD) (n : Nat) : Prop := ∃ kvs : List (List Key × V),H F = some (.dT kvs) /\ (∀ p q,valV kvs [pk p,pk q] = (d p q).map V.int) /\ kvs.length <= n
theorem DT.same {H H' : Hp} {F : Addr} {d : PD} {n : Nat} (h : DT H F d n) (s : Same H H') : DT H' F d n := let ⟨k,e,v,l⟩ := h; ⟨k,s _ _ e,v,l⟩
theorem DT.le {H : Hp} {F : Addr} {d : PD} {n m : Nat} (h : DT H F d n) (s : n <= m) : DT H F d m := let ⟨k,e,v,l⟩ := h; ⟨k,e,v,Nat.le_trans l s⟩
theorem DT.get {H : Hp} {F b : Addr} {d : PD} {n : Nat} {p q : Option Str} (h : DT H F d n) (eb : H b = some (.tup [ptV p,ptV q])) : DGet H F (.ref b) ((d p q).map V.int) := by
 obtain ⟨k,e,v,_⟩ := h
 rw [<- v p q]
 exact DGet.t (k := [pk p,pk q]) e (by rw [eb]; simp [kV_pk])
theorem DT.put {H : Hp} {F b : Addr} {d : PD} {n : Nat} {p q : Option Str} {x : Int} (h : DT H F d n) (eb : H b = some (.tup [ptV p,ptV q])) (hn : n < sizeLine) :
   ∃ H',DPut H F (.ref b) (.int x) H' /\ DT H' F (Fw.put d p q x) (n + 1) /\ ∀ c,c ≠ F -> H' c = H c := by
 obtain ⟨k,e,v,l⟩ := h
 refine ⟨_,DPut.t (k := [pk p,pk q]) e (by rw [eb]; simp [kV_pk]) (Nat.lt_of_le_of_lt l hn),⟨_,upd_same,fun p' q' => ?_,Nat.le_trans (length_putK _ _ _) (Nat.succ_le_succ l)⟩,fun c hc => upd_ne hc⟩
 rw [valV_put]
 unfold Fw.put
 by_cases z : p' = p /\ q' = q
 . rw [if_pos (by rw [z.1,z.2]),if_pos z]; rfl
 . rw [if_neg (fun w => z ?_),if_neg z]
   . exact v p' q'
   . have w' := List.cons.inj w
     exact ⟨pk_inj w'.1,pk_inj (List.cons.inj w'.2).1⟩
theorem tCons_eq {ta : TE} {tr : TA} {σ : St} {H : Hp} {Q : List V -> Hp -> Prop} : tCons ta tr σ H Q = ta σ H fun x H1 => tr σ H1 fun xs H2 => Q (x :: xs) H2 := rfl
section
variable {σ : St} {H H0 : Hp} {f i j g : Nat} {F : Addr} {d : PD} {n : Nat} {p q : Option Str} {x z : Int} {Q : VK} {E : Ends}
theorem tk {v u : V} (e1 : σ[i]? = some (some v)) (e2 : σ[j]? = some (some u)) (k : ∀ b H',H b = none -> Same H H' -> H' b = some (.tup [v,u]) -> Q (.ref b) H') : tTup (tCons (tV i) (tCons (tV j) tNil)) σ H Q := by
 unfold tTup tCons tV
 rw [e1,e2]
 exact ⟨by show 2 <= sizeLine; rw [sizeLine_eq]; decide,fun p hp => k p _ hp ((Same.refl H).upd hp) upd_same⟩
theorem dt_get (e0 : σ[f]? = some (some (.ref F))) (e1 : σ[i]? = some (some (ptV p))) (e2 : σ[j]? = some (some (ptV q))) (D : DT H F d n) (h : d p q = some x) (k : ∀ H',Same H H' -> DT H' F d n -> Q (.int x) H') :
   tDGet (tV f) (tTup (tCons (tV i) (tCons (tV j) tNil))) σ H Q := by
 show tV f σ H _
 unfold tV
 rw [e0]
 refine tk e1 e2 fun b H' _ s eb => ⟨F,.int x,rfl,?_,k H' s (D.same s)⟩
 have z := (D.same s).get eb
 rw [h] at z
 exact z
theorem dt_in (e0 : σ[f]? = some (some (.ref F))) (e1 : σ[i]? = some (some (ptV p))) (e2 : σ[j]? = some (some (ptV q))) (D : DT H F d n) (k : ∀ H',Same H H' -> DT H' F d n -> Q (.bl (d p q).isSome) H') :
   tDIn (tTup (tCons (tV i) (tCons (tV j) tNil))) (tV f) σ H Q := by
 refine tk e1 e2 fun b H' _ s eb => ?_
 unfold tV
 rw [e0]
 refine ⟨F,_,rfl,(D.same s).get eb,?_⟩
 rw [Option.isSome_map]
 exact k H' s (D.same s)
theorem if_in2 {m : Nat} {r : Option Str} {t : TS} (e0 : σ[f]? = some (some (.ref F))) (e1 : σ[i]? = some (some (ptV p))) (e2 : σ[m]? = some (some (ptV r))) (e3 : σ[j]? = some (some (ptV q))) (D : DT H F d n)
   (h1 : (d p r = none ∨ d r q = none) -> ∀ H',Same H H' -> DT H' F d n -> E.nx σ H') (h2 : ∀ x1 x2,d p r = some x1 -> d r q = some x2 -> ∀ H',Same H H' -> DT H' F d n -> t E σ H') :
   tIfS (tAnd (tB (tDIn (tTup (tCons (tV i) (tCons (tV m) tNil))) (tV f))) (tB (tDIn (tTup (tCons (tV m) (tCons (tV j) tNil))) (tV f)))) t tNext E σ H := by
 unfold tIfS tAnd tB
 refine dt_in e0 e1 e2 D fun H1 s1 D1 => ⟨_,rfl,?_⟩
 cases a1 : d p r with
 | none => exact h1 (.inl a1) H1 s1 D1
 | some x1 =>
   rw [show (some x1).isSome = true from rfl,if_pos rfl]
   refine dt_in e0 e2 e3 D1 fun H2 s2 D2 => ⟨_,rfl,?_⟩
   cases a2 : d r q with
   | none => exact h1 (.inr a2) H2 (s1.trans s2) D2
   | some x2 => exact h2 x1 x2 a1 a2 H2 (s1.trans s2) D2
theorem dt_tot {m : Nat} {r : Option Str} {u : TS} {x1 x2 : Int} (e0 : σ[f]? = some (some (.ref F))) (e1 : σ[i]? = some (some (ptV p))) (e2 : σ[m]? = some (some (ptV r))) (e3 : σ[j]? = some (some (ptV q))) (D : DT H F d n) (a1 : d p r = some x1) (a2 : d r q = some x2)
   (k : ∀ H',Same H H' -> DT H' F d n -> u E (σ.set g (some (.int (x1 + x2)))) H') :
   tSeq (tAsg (tOp (fI fun i j => .int (i + j)) (tDGet (tV f) (tTup (tCons (tV i) (tCons (tV m) tNil)))) (tDGet (tV f) (tTup (tCons (tV m) (tCons (tV j) tNil))))) (gName g)) u E σ H := by
 unfold tSeq tAsg tOp
 refine dt_get e0 e1 e2 D a1 fun H1 s1 D1 => ?_
 refine dt_get e0 e2 e3 D1 a2 fun H2 s2 D2 => ?_
 exact k H2 (s1.trans s2) D2
theorem dt_max (e0 : σ[f]? = some (some (.ref F))) (e1 : σ[i]? = some (some (ptV p))) (e2 : σ[j]? = some (some (ptV q))) (e3 : σ[g]? = some (some (.int z))) (hF : H0 F = none) (S : Same H0 H) (D : DT H F d n) (hn : n < sizeLine)
   (k : ∀ H',Same H0 H' -> DT H' F (Fw.put d p q (if z > (d p q).getD z then z else (d p q).getD z)) (n + 1) -> E.nx σ H') :
   sDPut (tV f) (tTup (tCons (tV i) (tCons (tV j) tNil))) (tCB (fun xs H Q => ∃ i j,xs = [.int i,.int j] /\ Q (.int (if j > i then j else i)) H) (tCons (tDGet2 (tV f) (tTup (tCons (tV i) (tCons (tV j) tNil))) (tV g)) (tCons (tV g) tNil))) E σ H := by
 unfold sDPut tCB
 rw [tCons_eq]
 unfold tDGet2
 have eg : ∀ (H' : Hp) (Q' : VK),Q' (.int z) H' -> tV g σ H' Q' := fun H' Q' h => by unfold tV; rw [e3]; exact h
 have ef : ∀ (H' : Hp) (Q' : VK),Q' (.ref F) H' -> tV f σ H' Q' := fun H' Q' h => by unfold tV; rw [e0]; exact h
 refine ef _ _ ⟨F,rfl,?_,tk e1 e2 fun b H1 _ s1 eb => eg _ _ ⟨_,(D.same s1).get eb,?_⟩⟩
 . obtain ⟨kv,e,_⟩ := D
   exact .inr ⟨kv,.inl e⟩
 . refine eg _ _ ⟨(d p q).getD z,z,?_,ef _ _ (tk e1 e2 fun b2 H2 _ s2 eb2 => ?_)⟩
   . cases d p q <;> rfl
   . obtain ⟨H3,dp,dt,oth⟩ := ((D.same s1).same s2).put (x := if z > (d p q).getD z then z else (d p q).getD z) eb2 hn
     refine ⟨F,H3,rfl,dp,k H3 (fun c o e => ?_) dt⟩
     rw [oth c (fun w => by rw [w,hF] at e; cases e)]
     exact s2 _ _ (s1 _ _ (S _ _ e))
end
def DWell (st : List Step) (d : PD) : Prop := ∀ s ∈ st,∃ x,d s.2.1 s.2.2.1 = some x /\ s.2.2.2 <= x
def DFrom (st : List Step) (d : PD) : Prop := ∀ p q x,d p q = some x -> In3 p q x st
section
variable {B : Option Str -> Option Str -> Int -> Prop} (tr : ∀ p q r x y,B p q x -> B q r y -> B p r (x + y))
include tr
theorem relax_all {d : PD} (h : ∀ p q x,d p q = some x -> B p q x) (m i j : Option Str) : ∀ p q x,Fw.relax m i j d p q = some x -> B p q x := by
 intro p q x e
 rw [Fw.relax_eq] at e
 by_cases c : p = i /\ q = j
 . have e' : Fw.via m d i j = some x := by simpa [c] using e
   rw [c.1,c.2]
   rcases Fw.via_cases e' with z | ⟨a,b,h1,h2,rfl⟩
   . exact h _ _ _ z
   . exact tr _ _ _ _ _ (h _ _ _ h1) (h _ _ _ h2)
 . have e' : d p q = some x := by simpa [c] using e
   exact h _ _ _ e'
theorem row_all (m i : Option Str) : ∀ (js : List (Option Str)) {d : PD},(∀ p q x,d p q = some x -> B p q x) -> ∀ p q x,Fw.row m i js d p q = some x -> B p q x
 | [],_,h => h
 | j :: js,_,h => row_all m i js (relax_all tr h m i j)
theorem turn_all (m : Option Str) (js : List (Option Str)) : ∀ (is : List (Option Str)) {d : PD},(∀ p q x,d p q = some x -> B p q x) -> ∀ p q x,Fw.turn m is js d p q = some x -> B p q x
 | [],_,h => h
 | i :: is,_,h => turn_all m js is (row_all tr m i js h)
theorem fw_all' (ps : List (Option Str)) : ∀ (ms : List (Option Str)) {d : PD},(∀ p q x,d p q = some x -> B p q x) -> ∀ p q x,Fw.fw ms ps d p q = some x -> B p q x
 | [],_,h => h
 | m :: ms,_,h => fw_all' ps ms (turn_all tr m ps ps h)
end
def spSums : Sp := fun vs H Q _ => ∃ (l lp : Addr) (ws : List V) (st : List Step) (pts : List (Option Str)),vs = [.ref l,.ref lp] /\ H l = some (.lst ws) /\ DaAs H ws (st.map stepDa) /\ H lp = some (.lst (pts.map ptV)) /\ st.length <= 1000000 /\ pts.length <= 25 /\
 ∀ (F : Addr) (d0 : PD) (H' : Hp),H F = none -> DT H' F (Fw.fw pts pts d0) 2000000 -> DWell st d0 -> DFrom st d0 -> Same H H' -> Q (.ref F) H'
def PU1 (l lp F : Addr) (st : List Step) (H : Hp) : Nat -> St -> Hp -> Prop := fun i σ H' => ∃ (d : PD) (o3 o4 o5 o6 o7 o8 o9 o10 : Option V),σ = [some (.ref l),some (.ref lp),some (.ref F),o3,o4,o5,o6,o7,o8,o9,o10] /\ DT H' F d i /\ Same H H' /\ DWell (st.take i) d /\ DFrom (st.take i) d
def PU2 (l lp F : Addr) (pts : List (Option Str)) (d0 : PD) (H : Hp) : Nat -> St -> Hp -> Prop := fun i σ H' => ∃ (o3 o4 o5 o6 o7 o8 o9 o10 : Option V),σ = [some (.ref l),some (.ref lp),some (.ref F),o3,o4,o5,o6,o7,o8,o9,o10] /\ DT H' F (Fw.fw (pts.take i) pts d0) (1000000 + i * 625) /\ Same H H'
def PU3 (l lp F : Addr) (pts : List (Option Str)) (m : Option Str) (B : Nat) (d0 : PD) (H : Hp) : Nat -> St -> Hp -> Prop := fun i σ H' => ∃ (o3 o4 o5 o6 o8 o9 o10 : Option V),σ = [some (.ref l),some (.ref lp),some (.ref F),o3,o4,o5,o6,some (ptV m),o8,o9,o10] /\ DT H' F (Fw.turn m (pts.take i) pts d0) (B + i * 25) /\ Same H H'
def PU4 (l lp F : Addr) (pts : List (Option Str)) (m a : Option Str) (B : Nat) (d0 : PD) (H : Hp) : Nat -> St -> Hp -> Prop := fun i σ H' => ∃ (o3 o4 o5 o6 o9 o10 : Option V),σ = [some (.ref l),some (.ref lp),some (.ref F),o3,o4,o5,o6,some (ptV m),some (ptV a),o9,o10] /\ DT H' F (Fw.row m a (pts.take i) d0) (B + i) /\ Same H H'
theorem ptDa_at {H : Hp} {v : V} : ∀ {p : Option Str},DaAt H v (ptDa p) -> v = ptV p
 | none,h => by cases h; rfl
 | some n,h => by cases h; rfl
theorem step_at {H : Hp} {v : V} {s : Step} (h : DaAt H v (stepDa s)) : ∃ a b,v = .ref a /\ H a = some (.tup [b,ptV s.2.1,ptV s.2.2.1,.int s.2.2.2]) := by
 obtain ⟨a,vs,rfl,e,_,r⟩ := h.tupE
 obtain ⟨v1,v2,v3,v4,rfl,h1,h2,h3,h4⟩ := r.four
 cases h4
 rw [ptDa_at h2,ptDa_at h3] at e
 exact ⟨a,v1,rfl,e⟩
section
variable {P : Program} {w : World} {K : PySem.W.Frag} {mg : Str -> Option Value} {base : Heap} {t8 : Tok}
theorem sc_sums : FnScope ["_law_steps_here","_law_points","_law_found","_law_bound","_law_begin","_law_end","_law_more","_law_middle","_law_one","_law_other","_law_total"] ["_law_steps_here","_law_points"] (defScope sSums) := ⟨rfl,rfl,rfl,by decide +kernel,rfl,by decide +kernel,by decide +kernel⟩
theorem ok_sums {f : Addr} {fd : FuncData} (F : Fun K "_law_sums" "_law_sums" sSums f fd) (T : Txt mg t8) : FnOk P w K mg base CX0 1 f fd ["_law_steps_here","_law_points"] spSums := by
 refine F.ok sc_sums (fun vs H Q E h => ?_) (fun cdv A outer s H vs Q E hr h => ?_)
 . obtain ⟨l,lp,ws,st,pts,rfl,_⟩ := h
   rfl
 . obtain ⟨l,lp,ws,st,pts,rfl,hl,da,hlp,few,few2,q⟩ := h
   have sl0 : sizeLine = 16777216 := sizeLine_eq
   have lw := da.len
   rw [List.length_map] at lw
   refine ⟨_,(pss_cons (ps_set (i := 2) sc_sums.nd rfl (Or.inl rfl) pe_dnewT) (pss_cons (ps_for PassesOwn.never rfl (pi_list (pV 0)) (pg_tup rfl (pgs_cons (pg_name (i := 3) sc_sums.nd rfl (Or.inl rfl)) (pgs_cons (pg_name (i := 4) sc_sums.nd rfl (Or.inl rfl)) (pgs_cons (pg_name (i := 5) sc_sums.nd rfl (Or.inl rfl)) (pgs_cons (pg_name (i := 6) sc_sums.nd rfl (Or.inl rfl)) pgs_nil))))) (pss_one (ps_dput (hu_of hr) (pV 2) (pe_tup (pa_cons (pV 4) (pa_cons (pV 5) pa_nil))) (pe_callB (call_max2 rfl) rfl T.max PyProof.Rows.boot_max (pa_cons (pe_dget2 (hu_of hr) (pV 2) (pe_tup (pa_cons (pV 4) (pa_cons (pV 5) pa_nil))) (pV 6) ⟨rfl,rfl,rfl,rfl⟩) (pa_cons (pV 6) pa_nil))) rfl))) (pss_cons (ps_for PassesOwn.never rfl (pi_list (pV 1)) (pg_name (i := 7) sc_sums.nd rfl (Or.inl rfl)) (pss_one (ps_for PassesOwn.never rfl (pi_list (pV 1)) (pg_name (i := 8) sc_sums.nd rfl (Or.inl rfl)) (pss_one (ps_for PassesOwn.never rfl (pi_list (pV 1)) (pg_name (i := 9) sc_sums.nd rfl (Or.inl rfl)) (pss_one (ps_if (ptAnd (pt_cmp (pc_din (hu_of hr) (pe_tup (pa_cons (pV 8) (pa_cons (pV 7) pa_nil))) (pV 2))) (pw_and1 (pt_cmp (pc_din (hu_of hr) (pe_tup (pa_cons (pV 7) (pa_cons (pV 9) pa_nil))) (pV 2))))) (pss_cons (ps_set (i := 10) sc_sums.nd rfl (Or.inl rfl) (pe_op oAdd (pe_dget (hu_of hr) (pV 2) (pe_tup (pa_cons (pV 8) (pa_cons (pV 7) pa_nil))) (fun _ _ => rfl)) (pe_dget (hu_of hr) (pV 2) (pe_tup (pa_cons (pV 7) (pa_cons (pV 9) pa_nil))) (fun _ _ => rfl)))) (pss_one (ps_dput (hu_of hr) (pV 2) (pe_tup (pa_cons (pV 8) (pa_cons (pV 9) pa_nil))) (pe_callB (call_max2 rfl) rfl T.max PyProof.Rows.boot_max (pa_cons (pe_dget2 (hu_of hr) (pV 2) (pe_tup (pa_cons (pV 8) (pa_cons (pV 9) pa_nil))) (pV 10) ⟨rfl,rfl,rfl,rfl⟩) (pa_cons (pV 10) pa_nil))) rfl))) pss_nil))))))) (pss_one (ps_ret (pV 2)))))),?_⟩
   refine fun F hF => ?_
   have s0 : Same H (upd H F (.dT [])) := (Same.refl H).upd hF
   have t0 : DT (upd H F (.dT [])) F (fun _ _ => none) 0 := ⟨[],upd_same,fun _ _ => rfl,Nat.le_refl _⟩
   generalize upd H F (.dT []) = H0 at s0 t0 ⊢
   refine ⟨l,rfl,⟨_,SqL.of (s0 _ _ hl)⟩,for_list (xs := ws) (PU1 l lp F st H) ⟨_,none,none,none,none,none,none,none,none,rfl,t0,s0,(fun s hs => by simp at hs),fun p q x e => by cases e⟩ (fun i σ H' _ hz => by obtain ⟨d,_o3,_o4,_o5,_o6,_o7,_o8,_o9,_o10,_,_,s',_⟩ := hz; exact SqL.of (s' _ _ hl)) (fun i v σ H1 hv hz => ?_) (fun σ H1 hz => ?_)⟩
   . obtain ⟨d,o3,o4,o5,o6,o7,o8,o9,o10,rfl,t1,s1,w1,w2⟩ := hz
     obtain ⟨sd,esd,dv⟩ := da.get hv
     rw [List.getElem?_map] at esd
     obtain ⟨sp,esp,rfl⟩ := Option.map_eq_some_iff.mp esd
     obtain ⟨a,b,rfl,ea⟩ := step_at (dv.same s1)
     have ilt : i < st.length := (List.getElem?_eq_some_iff.mp esp).1
     refine ⟨a,_,rfl,SqT.of ea,rfl,_,_,rfl,_,_,rfl,_,_,rfl,_,_,rfl,rfl,?_⟩
     dsimp only
     refine dt_max (p := sp.2.1) (q := sp.2.2.1) (z := sp.2.2.2) rfl rfl rfl rfl hF s1 t1 (by omega) fun H2 s2 t2 => ?_
     refine ⟨_,_,_,_,_,_,_,_,_,rfl,t2,s2,fun s hs => ?_,fun p q x e => ?_⟩
     rotate_left
     . rw [List.take_add_one,esp]
       unfold Fw.put at e
       by_cases c : p = sp.2.1 /\ q = sp.2.2.1
       . rw [if_pos c] at e
         rw [c.1,c.2]
         have lastI : In3 sp.2.1 sp.2.2.1 sp.2.2.2 (st.take i ++ [sp]) := ⟨sp.1,by simp⟩
         cases z : d sp.2.1 sp.2.2.1 with
         | none =>
           rw [z] at e
           have e' : x = sp.2.2.2 := by
             have w := Option.some.inj e
             rw [<- w]
             show (if sp.2.2.2 > sp.2.2.2 then sp.2.2.2 else sp.2.2.2) = _
             split <;> rfl
           rw [e']; exact lastI
         | some y =>
           rw [z] at e
           have w := Option.some.inj e
           have w' : (if sp.2.2.2 > y then sp.2.2.2 else y) = x := w
           by_cases g : sp.2.2.2 > y
           . rw [if_pos g] at w'; rw [<- w']; exact lastI
           . rw [if_neg g] at w'; rw [<- w']; exact (w2 _ _ _ z).mono _
       . rw [if_neg c] at e
         exact (w2 p q x e).mono _
     rw [List.take_add_one,esp] at hs
     rcases List.mem_append.mp hs with z | z
     . obtain ⟨x,ex,lx⟩ := w1 s z
       unfold Fw.put
       by_cases c : s.2.1 = sp.2.1 /\ s.2.2.1 = sp.2.2.1
       . rw [if_pos c,<- c.1,<- c.2,ex]
         refine ⟨_,rfl,?_⟩
         show s.2.2.2 <= if sp.2.2.2 > x then sp.2.2.2 else x
         split <;> omega
       . rw [if_neg c]; exact ⟨x,ex,lx⟩
     . rw [show s = sp from by simpa using z]
       refine ⟨_,Fw.put_same,?_⟩
       split <;> omega
   . obtain ⟨d0,o3,o4,o5,o6,o7,o8,o9,o10,rfl,t1,s1,w1,w2⟩ := hz
     rw [lw,List.take_length] at w1 w2
     refine ⟨lp,rfl,⟨_,SqL.of (s1 _ _ hlp)⟩,for_list (xs := pts.map ptV) (PU2 l lp F pts d0 H) ⟨_,_,_,_,_,_,_,_,rfl,t1.le (by omega),s1⟩ (fun i σ H' _ hz => by obtain ⟨_o3,_o4,_o5,_o6,_o7,_o8,_o9,_o10,_,_,s'⟩ := hz; exact SqL.of (s' _ _ hlp)) (fun i v σ H2 hv hz => ?_) (fun σ H2 hz => ?_)⟩
     . obtain ⟨o3,o4,o5,o6,o7,o8,o9,o10,rfl,t2,s2⟩ := hz
       rw [List.getElem?_map] at hv
       obtain ⟨m,hm,rfl⟩ := Option.map_eq_some_iff.mp hv
       have ilt : i < pts.length := (List.getElem?_eq_some_iff.mp hm).1
       refine ⟨lp,rfl,⟨_,SqL.of (s2 _ _ hlp)⟩,for_list (xs := pts.map ptV) (PU3 l lp F pts m (1000000 + i * 625) (Fw.fw (pts.take i) pts d0) H) ⟨_,_,_,_,_,_,_,rfl,t2,s2⟩ (fun j σ H' _ hz => by obtain ⟨_o3,_o4,_o5,_o6,_o8,_o9,_o10,_,_,s'⟩ := hz; exact SqL.of (s' _ _ hlp)) (fun j v σ H3 hv hz => ?_) (fun σ H3 hz => ?_)⟩
       . obtain ⟨o3,o4,o5,o6,o8,o9,o10,rfl,t3,s3⟩ := hz
         rw [List.getElem?_map] at hv
         obtain ⟨a,ha,rfl⟩ := Option.map_eq_some_iff.mp hv
         have jlt : j < pts.length := (List.getElem?_eq_some_iff.mp ha).1
         refine ⟨lp,rfl,⟨_,SqL.of (s3 _ _ hlp)⟩,for_list (xs := pts.map ptV) (PU4 l lp F pts m a (1000000 + i * 625 + j * 25) (Fw.turn m (pts.take j) pts (Fw.fw (pts.take i) pts d0)) H) ⟨_,_,_,_,_,_,rfl,t3,s3⟩ (fun k σ H' _ hz => by obtain ⟨_o3,_o4,_o5,_o6,_o9,_o10,_,_,s'⟩ := hz; exact SqL.of (s' _ _ hlp)) (fun k v σ H4 hv hz => ?_) (fun σ H4 hz => ?_)⟩
         . obtain ⟨o3,o4,o5,o6,o9,o10,rfl,t4,s4⟩ := hz
           rw [List.getElem?_map] at hv
           obtain ⟨b,hb,rfl⟩ := Option.map_eq_some_iff.mp hv
           have klt : k < pts.length := (List.getElem?_eq_some_iff.mp hb).1
           have erow : Fw.row m a (pts.take (k + 1)) (Fw.turn m (pts.take j) pts (Fw.fw (pts.take i) pts d0)) = Fw.relax m a b (Fw.row m a (pts.take k) (Fw.turn m (pts.take j) pts (Fw.fw (pts.take i) pts d0))) := by
             unfold Fw.row
             rw [List.take_add_one,hb,List.foldl_append]; rfl
           have fin : ∀ (o10' : Option V) (H' : Hp),Same H H' -> DT H' F (Fw.relax m a b (Fw.row m a (pts.take k) (Fw.turn m (pts.take j) pts (Fw.fw (pts.take i) pts d0)))) (1000000 + i * 625 + j * 25 + k + 1) -> PU4 l lp F pts m a (1000000 + i * 625 + j * 25) (Fw.turn m (pts.take j) pts (Fw.fw (pts.take i) pts d0)) H (k + 1) [some (.ref l),some (.ref lp),some (.ref F),o3,o4,o5,o6,some (ptV m),some (ptV a),some (ptV b),o10'] H' := fun o10' H' s' t' => ⟨_,_,_,_,_,_,rfl,by rw [erow]; exact t',s'⟩
           generalize Fw.row m a (pts.take k) (Fw.turn m (pts.take j) pts (Fw.fw (pts.take i) pts d0)) = d at t4 fin
           refine if_in2 (p := a) (r := m) (q := b) rfl rfl rfl rfl t4 (fun no H5 s5 t5 => ?_) (fun x1 x2 e1 e2 H5 s5 t5 => ?_)
           . refine fin _ _ (s4.trans s5) ?_
             have z : Fw.relax m a b d = d := by
               unfold Fw.relax
               rcases no with e | e
               . rw [e]
               . cases d a m with
                 | none => rfl
                 | some w => rw [e]
             rw [z]
             exact t5.le (Nat.le_succ _)
           . refine dt_tot (p := a) (r := m) (q := b) rfl rfl rfl rfl t5 e1 e2 fun H6 s6 t6 => ?_
             refine dt_max (p := a) (q := b) (z := x1 + x2) rfl rfl rfl rfl hF ((s4.trans s5).trans s6) t6 (by omega) fun H9 s9 t9 => ?_
             refine fin _ _ s9 ?_
             have z : Fw.relax m a b d = Fw.put d a b (if x1 + x2 > (d a b).getD (x1 + x2) then x1 + x2 else (d a b).getD (x1 + x2)) := by unfold Fw.relax; rw [e1,e2]
             rw [z]
             exact t9
         . obtain ⟨o3,o4,o5,o6,o9,o10,rfl,t4,s4⟩ := hz
           rw [List.length_map,List.take_length] at t4
           refine ⟨_,_,_,_,_,_,_,rfl,?_,s4⟩
           have e : Fw.turn m (pts.take (j + 1)) pts (Fw.fw (pts.take i) pts d0) = Fw.row m a pts (Fw.turn m (pts.take j) pts (Fw.fw (pts.take i) pts d0)) := by
             unfold Fw.turn
             rw [List.take_add_one,ha,List.foldl_append]; rfl
           rw [e]
           exact t4.le (by omega)
       . obtain ⟨o3,o4,o5,o6,o8,o9,o10,rfl,t3,s3⟩ := hz
         rw [List.length_map,List.take_length] at t3
         refine ⟨_,_,_,_,_,_,_,_,rfl,?_,s3⟩
         have e : Fw.fw (pts.take (i + 1)) pts d0 = Fw.turn m pts pts (Fw.fw (pts.take i) pts d0) := by
           unfold Fw.fw
           rw [List.take_add_one,hm,List.foldl_append]; rfl
         rw [e]
         exact t3.le (by omega)
     . obtain ⟨o3,o4,o5,o6,o7,o8,o9,o10,rfl,t2,s2⟩ := hz
       rw [List.length_map,List.take_length] at t2
       exact q F d0 H2 hF (t2.le (by omega)) w1 w2 s2
end
end K04
namespace K04
open PySem L2 K02
theorem tOp_eq {r : R2} {ta tb : TE} {σ : St} {H : Hp} {Q : VK} : tOp r ta tb σ H Q = ta σ H fun x H1 => tb σ H1 fun y H2 => r x y H2 Q := rfl
theorem tC_eq {v : V} {σ : St} {H : Hp} {Q : VK} : tC v σ H Q = Q v H := rfl
section
variable {σ : St} {H : Hp} {t0 t1 t2 t3 : TE} {F : Addr} {d : PD} {n : Nat} {p q : Option Str} {x z : Int} {Q : VK}
theorem tkG {v u : V} (h1 : ∀ H Q,Q v H -> t1 σ H Q) (h2 : ∀ H Q,Q u H -> t2 σ H Q) (k : ∀ b H',Same H H' -> H' b = some (.tup [v,u]) -> Q (.ref b) H') : tTup (tCons t1 (tCons t2 tNil)) σ H Q := by
 unfold tTup
 rw [tCons_eq]
 refine h1 _ _ ?_
 rw [tCons_eq]
 refine h2 _ _ ?_
 exact ⟨by show 2 <= sizeLine; rw [sizeLine_eq]; decide,fun p hp => k p _ ((Same.refl H).upd hp) upd_same⟩
theorem dt_getG (h0 : ∀ H Q,Q (.ref F) H -> t0 σ H Q) (h1 : ∀ H Q,Q (ptV p) H -> t1 σ H Q) (h2 : ∀ H Q,Q (ptV q) H -> t2 σ H Q) (D : DT H F d n) (h : d p q = some x) (k : ∀ H',Same H H' -> DT H' F d n -> Q (.int x) H') :
   tDGet t0 (tTup (tCons t1 (tCons t2 tNil))) σ H Q := by
 unfold tDGet
 refine h0 _ _ (tkG h1 h2 fun b H' s eb => ⟨F,.int x,rfl,?_,k H' s (D.same s)⟩)
 have w := (D.same s).get eb
 rw [h] at w
 exact w
theorem dt_get2G (h0 : ∀ H Q,Q (.ref F) H -> t0 σ H Q) (h1 : ∀ H Q,Q (ptV p) H -> t1 σ H Q) (h2 : ∀ H Q,Q (ptV q) H -> t2 σ H Q) (h3 : ∀ H Q,Q (.int z) H -> t3 σ H Q) (D : DT H F d n) (k : ∀ H',Same H H' -> DT H' F d n -> Q (.int ((d p q).getD z)) H') :
   tDGet2 t0 (tTup (tCons t1 (tCons t2 tNil))) t3 σ H Q := by
 unfold tDGet2
 refine h0 _ _ ⟨F,rfl,?_,tkG h1 h2 fun b H' s eb => h3 _ _ ⟨_,(D.same s).get eb,?_⟩⟩
 . obtain ⟨kv,e,_⟩ := D
   exact .inr ⟨kv,.inl e⟩
 . have w := k H' s (D.same s)
   cases e : d p q with
   | none => rw [e] at w; exact w
   | some y => rw [e] at w; exact w
end
def ptsOf (ss : List Str) : List (Option Str) := none :: ss.map some
def leastM (d : PD) : Str -> Int := fun n => (d none (some n)).getD 0
def greatM (d : PD) : Str -> Int := fun n => 0 - (d (some n) none).getD 0
section
variable {hs : List House} {ls : List Letter} {st : List Step} {d : PD} {ss : List Str}
theorem least_steps (w : DWell st d) (cl : Fw.Closed (ptsOf ss) (ptsOf ss) d) (nb : ¬ Fw.Bad (ptsOf ss) d) (all : ∀ n ∈ ss,∃ x,d none (some n) = some x) {p q : Option Str} {y : Int} (hp : p ∈ ptsOf ss) (hq : q ∈ ptsOf ss) (h : In3 p q y st) : pm (leastM d) p + y <= pm (leastM d) q := by
 obtain ⟨l,hl⟩ := h
 obtain ⟨x,ex,lx⟩ := w _ hl
 have n0 : none ∈ ptsOf ss := List.mem_cons_self
 have zero : ∀ c,d none none = some c -> c <= 0 := fun c ec => by
   rcases Int.lt_or_le 0 c with z | z
   . exact absurd ⟨none,n0,c,ec,z⟩ nb
   . exact z
 have ofS : ∀ n,some n ∈ ptsOf ss -> ∃ x,d none (some n) = some x /\ leastM d n = x := fun n hn => by
   have hn' : n ∈ ss := by
     rcases List.mem_cons.mp hn with z | z
     . cases z
     . obtain ⟨k,hk,e⟩ := List.mem_map.mp z; cases e; exact hk
   obtain ⟨x,e⟩ := all n hn'
   exact ⟨x,e,by unfold leastM; rw [e]; rfl⟩
 cases p with
 | none =>
   cases q with
   | none => have := zero x ex; show (0 : Int) + y <= 0; have lx' : y <= x := lx; omega
   | some b =>
     obtain ⟨b1,e1,e2⟩ := ofS b hq
     have ex' : d none (some b) = some x := ex
     rw [ex'] at e1
     cases e1
     show (0 : Int) + y <= leastM d b
     have lx' : y <= x := lx
     omega
 | some a =>
   obtain ⟨a1,e1,e2⟩ := ofS a hp
   obtain ⟨c,ec,lc⟩ := cl (some a) hp none n0 q hq a1 x e1 ex
   have lx' : y <= x := lx
   cases q with
   | none =>
     have := zero c ec
     show leastM d a + y <= 0
     omega
   | some b =>
     obtain ⟨b1,e3,e4⟩ := ofS b hq
     rw [ec] at e3
     cases e3
     show leastM d a + y <= leastM d b
     omega
theorem steps_plac (ok : StepsOk hs ls st) (gh : GoodHouses hs) (gl : GoodLetters hs ls) {m : Str -> Int} {pts : List (Option Str)} (n0 : none ∈ pts) (hn : ∀ n ∈ namesOf hs,some n ∈ pts) (h : ∀ p q y,p ∈ pts -> q ∈ pts -> In3 p q y st -> pm m p + y <= pm m q) : placB hs ls m = true := by
 refine Bool.and_eq_true_iff.mpr ⟨List.all_eq_true.mpr fun k hk => ?_,List.all_eq_true.mpr fun l hl => ?_⟩
 . obtain ⟨o1,o2,o3⟩ := ok.1 k hk
   have nm : ∀ r ∈ rowsH k,some r.1 ∈ pts := fun r hr => hn _ (List.mem_flatMap.mpr ⟨k,hk,List.mem_map_of_mem hr⟩)
   refine keep_parts.mpr ⟨fun r hr => ?_,?_,fun rs hrs => ?_⟩
   . have z1 : (0 : Int) + (r.2 - k.high) <= m r.1 := h _ _ _ n0 (nm r hr) (o1 r hr).1
     have z2 : m r.1 + (k.low - r.2) <= (0 : Int) := h _ _ _ (nm r hr) n0 (o1 r hr).2
     unfold rowB
     exact Bool.and_eq_true_iff.mpr ⟨decide_eq_true (by omega),decide_eq_true (by omega)⟩
   . have go : ∀ (l pre : List Str),namesH k = pre ++ l -> adjB m l = true := by
       intro l
       induction l with
       | nil => intro _ _; rfl
       | cons a l ih =>
         intro pre e
         cases l with
         | nil => rfl
         | cons b r =>
           have w := ih (pre ++ [a]) (by rw [e]; simp)
           have ina : ∀ c ∈ [a,b],some c ∈ pts := fun c hc => hn _ (List.mem_flatMap.mpr ⟨k,hk,by rw [e]; simp at hc ⊢; rcases hc with rfl | rfl <;> simp⟩)
           have z : m a + 1 <= m b := h _ _ _ (ina a (by simp)) (ina b (by simp)) (o2 pre r a b e)
           show (nextB m (a,b) && adjB m (b :: r)) = true
           exact Bool.and_eq_true_iff.mpr ⟨decide_eq_true (show 1 <= m b - m a by omega),w⟩
     exact go _ [] rfl
   . have inr : ∀ r ∈ rs,r ∈ rowsH k := fun r hr => List.mem_flatten.mpr ⟨rs,hrs,hr⟩
     have pr : ∀ (i j : Nat) (q r : Row),i < j -> rs[i]? = some q -> rs[j]? = some r -> (q.2 - m q.1) - (r.2 - m r.1) <= k.drift /\ (r.2 - m r.1) - (q.2 - m q.1) <= k.drift := fun i j q r lt e1 e2 => by
       have hq := nm q (inr q (List.mem_of_getElem? e1))
       have hr := nm r (inr r (List.mem_of_getElem? e2))
       obtain ⟨w1,w2⟩ := o3 rs hrs i j q r lt e1 e2
       have z1 : m q.1 + (r.2 - q.2 - k.drift) <= m r.1 := h _ _ _ hq hr w1
       have z2 : m r.1 + (q.2 - r.2 - k.drift) <= m q.1 := h _ _ _ hr hq w2
       omega
     have d0 := (gh.all k hk).drift
     unfold driftB
     refine decide_eq_true fun a ha b hb => ?_
     obtain ⟨q,hq,rfl⟩ := List.mem_map.mp ha
     obtain ⟨r,hr,rfl⟩ := List.mem_map.mp hb
     obtain ⟨i,ei⟩ := List.mem_iff_getElem?.mp hq
     obtain ⟨j,ej⟩ := List.mem_iff_getElem?.mp hr
     rcases Nat.lt_trichotomy i j with z | z | z
     . exact (pr i j q r z ei ej).1
     . rw [z,ej] at ei
       cases ei
       omega
     . exact (pr j i r q z ej ei).2
 . obtain ⟨h1,m1,h2,m2,n1,n2,_⟩ := (gl.all l hl).houses
   have i1 : some l.1.1 ∈ pts := hn _ (List.mem_flatMap.mpr ⟨h1,m1,n1⟩)
   have i2 : some l.1.2 ∈ pts := hn _ (List.mem_flatMap.mpr ⟨h2,m2,n2⟩)
   obtain ⟨o1,o2⟩ := ok.2 l hl
   have z1 : m l.1.1 + l.2.1 <= m l.1.2 := h _ _ _ i1 i2 o1
   unfold keepL
   refine Bool.and_eq_true_iff.mpr ⟨decide_eq_true (by omega),?_⟩
   cases e : l.2.2 with
   | none => rfl
   | some z =>
     have z2 : m l.1.2 + (0 - z) <= m l.1.1 := h _ _ _ i2 i1 (o2 z e)
     exact decide_eq_true (by omega)
structure SumsOk (hs : List House) (ls : List Letter) (ss : List Str) (d : PD) : Prop where
 lo : ∀ h ∈ hs,∀ r ∈ rowsH h,∃ x,d none (some r.1) = some x /\ r.2 - h.high <= x
 hi : ∀ h ∈ hs,∀ r ∈ rowsH h,∃ x,d (some r.1) none = some x /\ h.low - r.2 <= x
 snd : ∀ m,placB hs ls m = true -> ∀ p q x,d p q = some x -> pm m p + x <= pm m q
 good : ¬ Fw.Bad (ptsOf ss) d -> placB hs ls (leastM d) = true
theorem sums_ok {d0 : PD} (pmm : ss.Perm (namesOf hs)) (gh : GoodHouses hs) (gl : GoodLetters hs ls) (ok : StepsOk hs ls st) (sd : ∀ s ∈ st,Snd hs ls s) (w : DWell st d0) (fr : DFrom st d0) : SumsOk hs ls ss (Fw.fw (ptsOf ss) (ptsOf ss) d0) := by
 have le := Fw.fw_le (ptsOf ss) (ptsOf ss) d0
 have w' : DWell st (Fw.fw (ptsOf ss) (ptsOf ss) d0) := fun s hs => by
   obtain ⟨x,e,l⟩ := w s hs
   obtain ⟨y,e2,l2⟩ := le _ _ x e
   exact ⟨y,e2,Int.le_trans l l2⟩
 have lo : ∀ h ∈ hs,∀ r ∈ rowsH h,∃ x,Fw.fw (ptsOf ss) (ptsOf ss) d0 none (some r.1) = some x /\ r.2 - h.high <= x := fun h hh r hr => by
   obtain ⟨l,hl⟩ := ((ok.1 h hh).1 r hr).1
   exact w' _ hl
 refine ⟨lo,fun h hh r hr => ?_,fun m em => ?_,fun nb => ?_⟩
 . obtain ⟨l,hl⟩ := ((ok.1 h hh).1 r hr).2
   exact w' _ hl
 . refine fw_all' (B := fun p q x => pm m p + x <= pm m q) (fun p q r x y a b => by omega) (ptsOf ss) (ptsOf ss) fun p q x e => ?_
   obtain ⟨l,hl⟩ := fr p q x e
   exact sd _ hl m em
 . have cl := (Fw.fw_all (ps := ptsOf ss) d0).resolve_left nb
   refine steps_plac ok gh gl (pts := ptsOf ss) List.mem_cons_self (fun n hn => List.mem_cons_of_mem _ (List.mem_map_of_mem (pmm.mem_iff.mpr hn))) fun p q y hp hq h => least_steps w' cl nb (fun n hn => ?_) hp hq h
   obtain ⟨k,hk,hn'⟩ := List.mem_flatMap.mp (pmm.mem_iff.mp hn)
   obtain ⟨r,hr,rfl⟩ := List.mem_map.mp hn'
   obtain ⟨x,e,_⟩ := lo k hk r hr
   exact ⟨x,e⟩
end
def PM (l3 F G : Addr) (x : V) (side : Int) (ss : List Str) (M : Str -> Int) (H8 : Hp) : Nat -> St -> Hp -> Prop := fun i σ H' => ∃ o5 : Option V,σ = [some x,some (.int side),some (.ref l3),some (.ref F),some (.ref G),o5] /\ H' G = some (.dK (kvT (ss.take i) M)) /\ SameB G H8 H'
def spMoments : Sp := fun vs H Q _ => ∃ (x : V) (side : Int) (hs : List House) (ls : List Letter),vs = [x,.int side] /\ (side = 0 ∨ side = 1) /\ LedgerAt H x hs ls /\ GoodHouses hs /\ GoodLetters hs ls /\
 (∀ H',Same H H' -> (∀ m,placB hs ls m = false) -> Q .non H') /\
 ∀ (a : Addr) (m : Str -> Int) (ss : List Str) (H' : Hp),H a = none -> H' a = some (.dK (kvT ss m)) -> ss.Perm (namesOf hs) -> Same H H' -> (side = 0 -> placB hs ls m = true) -> (side = 1 -> (∀ m',placB hs ls m' = true -> ∀ n ∈ ss,m' n <= m n) /\ ∀ h ∈ hs,∀ r ∈ rowsH h,m r.1 <= r.2 - h.low) -> Q (.ref a) H'
section
variable {P : Program} {w : World} {K : PySem.W.Frag} {mg : Str -> Option Value} {base : Heap} {t8 : Tok}
theorem sc_moments : FnScope ["_law_ledger_here","_law_side","_law_points","_law_sums_here","_law_found","_law_row"] ["_law_ledger_here","_law_side"] (defScope sMoments) := ⟨rfl,rfl,rfl,by decide +kernel,rfl,by decide +kernel,by decide +kernel⟩
theorem ok_moments {f F_z22 F_z21 F_z23 : Addr} {fd D_z22 D_z21 D_z23 : FuncData} (F : Fun K "_law_moments" "_law_moments" sMoments f fd) (T : Txt mg t8)
   (G_z22 : FnOk P w K mg base CX0 1 F_z22 D_z22 ["_law_ledger_here"] spRows) (M_z22 : mg "_law_rows" = some (.ref F_z22)) (N_z22 : PySem.W.keepIn K (.ref F_z22) = true) (B_z22 : Binds K D_z22 ["_law_ledger_here"] [])
   (G_z21 : FnOk P w K mg base CX0 1 F_z21 D_z21 ["_law_ledger_here"] spSteps) (M_z21 : mg "_law_steps" = some (.ref F_z21)) (N_z21 : PySem.W.keepIn K (.ref F_z21) = true) (B_z21 : Binds K D_z21 ["_law_ledger_here"] [])
   (G_z23 : FnOk P w K mg base CX0 1 F_z23 D_z23 ["_law_steps_here","_law_points"] spSums) (M_z23 : mg "_law_sums" = some (.ref F_z23)) (N_z23 : PySem.W.keepIn K (.ref F_z23) = true) (B_z23 : Binds K D_z23 ["_law_steps_here","_law_points"] []) : FnOk P w K mg base CX0 2 f fd ["_law_ledger_here","_law_side"] spMoments := by
 refine F.ok sc_moments (fun vs H Q E h => ?_) (fun cdv A outer s H vs Q E hr h => ?_)
 . obtain ⟨x,side,hs,ls,rfl,_⟩ := h
   rfl
 . obtain ⟨x,side,hs,ls,rfl,hside,hx,gh,gl,qn,qd⟩ := h
   have sl0 : sizeLine = 16777216 := sizeLine_eq
   refine ⟨_,(pss_cons (ps_set (i := 2) sc_moments.nd rfl (Or.inl rfl) (pe_op op_cat (pe_lst (pa_cons pe_non pa_nil)) (pe_call G_z22 hr rfl M_z22 N_z22 B_z22 .nil pass0 (pa_cons (pV 0) pa_nil)))) (pss_cons (ps_set (i := 3) sc_moments.nd rfl (Or.inr rfl) (pe_call G_z23 hr rfl M_z23 N_z23 B_z23 .nil pass0 (pa_cons (pe_call G_z21 hr rfl M_z21 N_z21 B_z21 .nil pass0 (pa_cons (pV 0) pa_nil)) (pa_cons (pV 2) pa_nil)))) (pss_cons (ps_if (L2.ptV (pe_callB (call_any rfl) rfl T.any (show bootBuiltins "any" = some (.builtin "any") by decide +kernel) (pa_cons (pe_comp (scX := defScope sMoments) (own := ["_law_one"]) (cap := ["_law_sums_here"]) (ix := [3]) rfl rfl ⟨rfl,by decide +kernel,by decide +kernel,by decide +kernel,rfl,by decide +kernel⟩ (pi_list (pV 2)) (fun b => (pg_name (i := 0) (show (["_law_one","_law_sums_here"]:List Str).Nodup by decide +kernel) rfl (Or.inl rfl))) (fun b => pif_nil) (fun b => (pe_cmpR oGt (pe_dget2 (hu_of hr) (pV 1) (pe_tup (pa_cons (pV 0) (pa_cons (pV 0) pa_nil))) pe_int ⟨rfl,rfl,rfl,rfl⟩) pe_int (nomark _)))) pa_nil))) (pss_one (ps_ret pe_non)) pss_nil) (pss_cons (ps_set (i := 4) sc_moments.nd rfl (Or.inl rfl) pe_dnewK) (pss_cons (ps_for PassesOwn.never rfl (pi_list (pe_slice sl_list (pV 2) (poI pe_int) po_none)) (pg_name (i := 5) sc_moments.nd rfl (Or.inl rfl)) (pss_one (ps_dput (hu_of hr) (pV 4) (pV 5) (pe_ix iIx (pe_lst (pa_cons (pe_dget (hu_of hr) (pV 3) (pe_tup (pa_cons pe_non (pa_cons (pV 5) pa_nil))) (fun _ _ => rfl)) (pa_cons (pe_op oSub pe_int (pe_dget (hu_of hr) (pV 3) (pe_tup (pa_cons (pV 5) (pa_cons pe_non pa_nil))) (fun _ _ => rfl))) pa_nil))) (pV 1) (fun _ _ => rfl)) rfl))) (pss_one (ps_ret (pV 4)))))))),?_⟩
   have few := gh.few
   refine ⟨by show 1 <= sizeLine; omega,fun l1 f1 => ?_⟩
   have s1 : Same H (upd H l1 (.lst [.non])) := (Same.refl H).upd f1
   have e1 : upd H l1 (.lst [.non]) l1 = some (.lst [.non]) := upd_same
   generalize upd H l1 (.lst [.non]) = H1 at s1 e1 ⊢
   refine ⟨x,hs,ls,rfl,hx.ts s1.tups,gh,fun l2 ss H2 e2 s2 pmm so => ?_⟩
   have lss : ss.length <= 24 := by rw [pmm.length_eq]; exact few
   refine ⟨l1,l2,_,_,rfl,rfl,s2 _ _ e1,e2,by rw [List.length_map]; show 1 + _ <= _; omega,fun l3 f3 => ?_⟩
   have ep : [V.non] ++ ss.map V.str = (ptsOf ss).map ptV := by unfold ptsOf; rw [List.map_cons,List.map_map]; rfl
   rw [ep]
   have s3 : Same H2 (upd H2 l3 (.lst ((ptsOf ss).map ptV))) := (Same.refl H2).upd f3
   have e3 : upd H2 l3 (.lst ((ptsOf ss).map ptV)) l3 = some (.lst ((ptsOf ss).map ptV)) := upd_same
   generalize upd H2 l3 (.lst ((ptsOf ss).map ptV)) = H3 at s3 e3 ⊢
   have S3 := (s1.trans s2).trans s3
   refine ⟨x,hs,ls,rfl,hx.ts S3.tups,gh,gl,fun l4 st H4 f4 L4 ok len4 => ?_⟩
   obtain ⟨ws,e4,da,s4,sd⟩ := L4
   have S4 := S3.trans s4
   have lpt : (ptsOf ss).length <= 25 := by unfold ptsOf; rw [List.length_cons,List.length_map]; omega
   refine ⟨l4,l3,ws,st,ptsOf ss,rfl,e4,da,s4 _ _ e3,len4,lpt,fun F d0 H5 fF t5 w fr s5 => ?_⟩
   have so := sums_ok pmm gh gl ok sd w fr
   generalize Fw.fw (ptsOf ss) (ptsOf ss) d0 = d at t5 so
   have S5 := S4.trans s5
   have e5 := s5 _ _ (s4 _ _ e3)
   refine ⟨l3,rfl,⟨_,SqL.of e5⟩,fun D hD => comp_mapL (xs := (ptsOf ss).map ptV) (ys := ((ptsOf ss).map fun p => decide (0 < (d p p).getD 0)).map V.bl) hD e5 (by rw [List.length_map]; omega) (by rw [List.length_map,List.length_map,List.length_map]) (fun i y H6 hy s6 b R hR => ?_) (fun H6 s6 e6 => ?_)⟩
   . rw [List.getElem?_map] at hy
     obtain ⟨p,hp,rfl⟩ := Option.map_eq_some_iff.mp hy
     refine gn ?_
     rw [tOp_eq]
     refine dt_get2G (σ := [some (ptV p),some (.ref F)]) (t0 := tV 1) (t1 := tV 0) (t2 := tV 0) (t3 := tC (.int 0)) (F := F) (p := p) (q := p) (z := 0) (fun _ _ q => q) (fun _ _ q => q) (fun _ _ q => q) (fun _ _ q => q) (t5.same s6) fun H7 s7 t7 => ?_
     exact hR H7 _ (by rw [List.getElem?_map,List.getElem?_map,hp]; rfl) s7
   . refine ⟨D,_,rfl,SqL.of e6,?_⟩
     have S6 := S5.trans s6
     cases ea : (((ptsOf ss).map fun p => decide (0 < (d p p).getD 0)).any id) with
     | true =>
       refine qn H6 S6 fun m => ?_
       cases em : placB hs ls m with
       | false => rfl
       | true =>
         obtain ⟨b,hb,eb⟩ := List.any_eq_true.mp ea
         obtain ⟨p,hp,rfl⟩ := List.mem_map.mp hb
         have z : 0 < (d p p).getD 0 := of_decide_eq_true eb
         cases ed : d p p with
         | none => rw [ed] at z; cases z
         | some c =>
           rw [ed] at z
           have w := so.snd m em p p c ed
           have z' : 0 < c := z
           omega
     | false =>
       have nb : ¬ Fw.Bad (ptsOf ss) d := fun ⟨p,hp,c,ec,c0⟩ => by
         have z := List.any_eq_false.mp ea _ (List.mem_map_of_mem (f := fun p => decide (0 < (d p p).getD 0)) hp)
         apply z
         show decide (0 < (d p p).getD 0) = true
         rw [ec]
         exact decide_eq_true c0
       have pl := so.good nb
       refine fun G hG => ?_
       have s7 : Same H6 (upd H6 G (.dK [])) := (Same.refl H6).upd hG
       have e7 : upd H6 G (.dK []) G = some (.dK (kvT [] (fun _ => 0))) := upd_same
       generalize upd H6 G (.dK []) = H7 at s7 e7 ⊢
       have S7 := S6.trans s7
       have fG : H G = none := by
         cases z : H G with
         | none => rfl
         | some u => rw [S6 _ _ z] at hG; cases hG
       refine ⟨l3,_,rfl,SqL.of (s7 _ _ (s6 _ _ e5)),fun l5 f5 => ?_⟩
       rw [cut1,<- List.map_drop,show (ptsOf ss).drop 1 = ss.map some from rfl]
       have s8 : Same H7 (upd H7 l5 (.lst ((ss.map some).map ptV))) := (Same.refl H7).upd f5
       have e8 : upd H7 l5 (.lst ((ss.map some).map ptV)) l5 = some (.lst ((ss.map some).map ptV)) := upd_same
       have eG := s8 _ _ e7
       generalize upd H7 l5 (.lst ((ss.map some).map ptV)) = H8 at s8 e8 eG ⊢
       have S8 := S7.trans s8
       have t8' := ((t5.same s6).same s7).same s8
       have nds : ss.Nodup := pmm.nodup_iff.mpr gh.rows
       have rowOf : ∀ n ∈ ss,∃ h ∈ hs,∃ r ∈ rowsH h,r.1 = n := fun n hn => by
         obtain ⟨h,hh,hn'⟩ := List.mem_flatMap.mp (pmm.mem_iff.mp hn)
         obtain ⟨r,hr,e⟩ := List.mem_map.mp hn'
         exact ⟨h,hh,r,hr,e⟩
       obtain ⟨M,eM⟩ : ∃ M : Str -> Int,M = if side = 0 then leastM d else greatM d := ⟨_,rfl⟩
       refine ⟨l5,rfl,⟨_,SqL.of e8⟩,for_list (xs := (ss.map some).map ptV) (PM l3 F G x side ss M H8) ⟨_,rfl,eG,fun b o n e => e⟩ (fun i σ H' _ hz => ?_) (fun i v σ H9 hv hz => ?_) (fun σ H9 hz => ?_)⟩
       . obtain ⟨_,_,_,sb⟩ := hz
         exact SqL.of (sb _ _ (fun z => by rw [z,eG] at e8; cases e8) e8)
       . obtain ⟨o5,rfl,eK,sb⟩ := hz
         rw [List.getElem?_map,List.getElem?_map] at hv
         obtain ⟨p',hp',rfl⟩ := Option.map_eq_some_iff.mp hv
         obtain ⟨n,hn,rfl⟩ := Option.map_eq_some_iff.mp hp'
         have ilt : i < ss.length := (List.getElem?_eq_some_iff.mp hn).1
         obtain ⟨h,hh,r,hr,er⟩ := rowOf n (List.mem_of_getElem? hn)
         obtain ⟨xl,exl,_⟩ := so.lo h hh r hr
         obtain ⟨xh,exh,_⟩ := so.hi h hh r hr
         rw [er] at exl exh
         have nFG : F ≠ G := fun z => by obtain ⟨kv,e,_⟩ := t8'; rw [z,eG] at e; cases e
         have t9 : DT H9 F d 2000000 := by obtain ⟨kv,e,v,l⟩ := t8'; exact ⟨kv,sb _ _ nFG e,v,l⟩
         refine gn ?_
         unfold sDPut
         rw [tOp_eq]
         unfold tLst
         rw [tCons_eq]
         refine dt_getG (σ := [some x,some (.int side),some (.ref l3),some (.ref F),some (.ref G),some (.str n)]) (t0 := tV 3) (t1 := tC .non) (t2 := tV 5) (F := F) (p := none) (q := some n) (fun _ _ q => q) (fun _ _ q => q) (fun _ _ q => q) t9 exl fun H10 s10 t10 => ?_
         rw [tCons_eq,tOp_eq,tC_eq]
         refine dt_getG (σ := [some x,some (.int side),some (.ref l3),some (.ref F),some (.ref G),some (.str n)]) (t0 := tV 3) (t1 := tV 5) (t2 := tC .non) (F := F) (p := some n) (q := none) (fun _ _ q => q) (fun _ _ q => q) (fun _ _ q => q) t10 exh fun H11 s11 t11 => ?_
         refine ⟨by show 2 <= sizeLine; omega,fun l6 f6 => ?_⟩
         have s12 : Same H11 (upd H11 l6 (.lst [.int xl,.int (0 - xh)])) := (Same.refl H11).upd f6
         have e12 : upd H11 l6 (.lst [.int xl,.int (0 - xh)]) l6 = some (.lst [.int xl,.int (0 - xh)]) := upd_same
         generalize upd H11 l6 (.lst [.int xl,.int (0 - xh)]) = H12 at s12 e12 ⊢
         have S12 : Same H9 H12 := (s10.trans s11).trans s12
         have eMn : M n = if side = 0 then xl else 0 - xh := by
           rw [eM]
           rcases hside with z | z
           . rw [if_pos z,if_pos z]; unfold leastM; rw [exl]; rfl
           . rw [if_neg (by omega),if_neg (by omega)]; unfold greatM; rw [exh]; rfl
         refine ixAt e12 (v := .int (M n)) (by rw [eMn]; rcases hside with z | z <;> rw [z] <;> rfl) ?_
         have nn : n ∉ ss.take i := get_fresh nds hn
         refine ⟨G,_,rfl,DPut.k (k := Sum.inr n) (S12 _ _ eK) (by unfold kvT; rw [List.length_map,List.length_take]; omega),?_⟩
         refine ⟨_,rfl,?_,fun b o nb e => by rw [upd_ne nb]; exact S12 _ _ (sb b o nb e)⟩
         rw [upd_same,K02.putK_new (by rw [kvT_keys]; intro w; obtain ⟨n',hn',e⟩ := List.mem_map.mp w; exact nn (Sum.inr.inj e ▸ hn')),List.take_add_one,hn]
         unfold kvT
         rw [List.map_append]
         rfl
       . obtain ⟨o5,rfl,eK,sb⟩ := hz
         rw [List.length_map,List.length_map,List.take_length] at eK
         refine qd G M ss H9 fG eK pmm (fun b o e => sb b o (fun z => by rw [z,fG] at e; cases e) (S8 b o e)) (fun z => by rw [eM,if_pos z]; exact pl) (fun z => ?_)
         have em : M = greatM d := by rw [eM,if_neg (by omega)]
         rw [em]
         refine ⟨fun m' em' n hn => ?_,fun h hh r hr => ?_⟩
         . obtain ⟨h,hh,r,hr,er⟩ := rowOf n hn
           obtain ⟨xh,exh,_⟩ := so.hi h hh r hr
           rw [er] at exh
           have w : m' n + xh <= (0 : Int) := so.snd m' em' _ _ _ exh
           unfold greatM
           rw [exh]
           show m' n <= 0 - xh
           omega
         . obtain ⟨xh,exh,lx⟩ := so.hi h hh r hr
           unfold greatM
           rw [exh]
           show 0 - xh <= r.2 - h.low
           omega
end
end K04
namespace K04
open PySem L2 K02
def KfB (p : Addr) (H H' : Hp) : Prop := ∀ b o,b ≠ p -> H b = some o -> H' b = some o ∨ ∃ kvs ob,o = .dK kvs /\ H' b = some (.frz ob o)
theorem KfB.ofB {p : Addr} {H H' : Hp} (s : SameB p H H') : KfB p H H' := fun b o n e => .inl (s b o n e)
theorem KfB.of {p : Addr} {H H' : Hp} (s : Same H H') : KfB p H H' := fun b o _ e => .inl (s b o e)
theorem KfB.ofF {p : Addr} {H H' : Hp} (s : SameF H H') : KfB p H H' := fun b o _ e => s b o e
theorem KfB.trans {p : Addr} {H H1 H2 : Hp} (a : KfB p H H1) (b : KfB p H1 H2) : KfB p H H2 := fun c o n e => by
 rcases a c o n e with q | ⟨kvs,ob,rfl,q⟩
 . exact b c o n q
 . rcases b c _ n q with z | ⟨_,_,z,_⟩
   . exact .inr ⟨kvs,ob,rfl,z⟩
   . cases z
theorem KfB.rd {p : Addr} {H H' : Hp} (s : KfB p H H') {a : Addr} (n : a ≠ p) {kvs : List (Key × V)} (h : Rd H a (.dK kvs)) : Rd H' a (.dK kvs) := by
 rcases h with h | ⟨o,h⟩
 . rcases s a _ n h with q | ⟨_,ob,_,q⟩
   . exact .inl q
   . exact .inr ⟨ob,q⟩
 . rcases s a _ n h with q | ⟨_,_,z,_⟩
   . exact .inr ⟨o,q⟩
   . cases z
theorem KfB.tup {p : Addr} {H H' : Hp} (s : KfB p H H') {a : Addr} {xs : List V} (n : a ≠ p) (h : H a = some (.tup xs)) : H' a = some (.tup xs) := by
 rcases s a _ n h with q | ⟨_,_,z,_⟩
 . exact q
 . cases z
theorem KfB.lst {p : Addr} {H H' : Hp} (s : KfB p H H') {a : Addr} {xs : List V} (n : a ≠ p) (h : H a = some (.lst xs)) : H' a = some (.lst xs) := by
 rcases s a _ n h with q | ⟨_,_,z,_⟩
 . exact q
 . cases z
theorem KfB.frz {p : Addr} {H H' : Hp} (s : KfB p H H') {a : Addr} {o : Obj} {u : HO} (n : a ≠ p) (h : H a = some (.frz o u)) : H' a = some (.frz o u) := by
 rcases s a _ n h with q | ⟨_,_,z,_⟩
 . exact q
 . cases z
theorem tup_ne {p a : Addr} {H : Hp} {xs : List V} (pk : PackAt H p) (h : H a = some (.tup xs)) : a ≠ p := fun z => by
 obtain ⟨n,e,_⟩ := pk
 rw [z,e] at h; cases h
theorem rd_ne {p a : Addr} {H : Hp} {kvs : List (Key × V)} (pk : PackAt H p) (h : Rd H a (.dK kvs)) : a ≠ p := fun z => by
 obtain ⟨n,e,_⟩ := pk
 rcases h with h | ⟨o,h⟩ <;> (rw [z,e] at h; cases h)
theorem KfB.tups {p : Addr} {H H' : Hp} (s : KfB p H H') (pk : PackAt H p) : Tups H H' := fun _ _ h => s.tup (tup_ne pk h) h
theorem InstAt.kf {p : Addr} {H H' : Hp} {a : Addr} {m : Str -> Int} {ns : List Str} (h : InstAt H a m ns) (pk : PackAt H p) (s : KfB p H H') : InstAt H' a m ns := let ⟨k,r,e,v⟩ := h; ⟨k,s.rd (rd_ne pk r) r,e,v⟩
def GoodI (ns0 : List Str) (H : Hp) (a : Addr) : Prop := ∃ m ns,InstAt H a m ns /\ ns.Perm ns0
theorem GoodI.kf {p : Addr} {ns0 : List Str} {H H' : Hp} {a : Addr} (h : GoodI ns0 H a) (pk : PackAt H p) (s : KfB p H H') : GoodI ns0 H' a := let ⟨m,ns,i,e⟩ := h; ⟨m,ns,i.kf pk s,e⟩
def intOf : V -> Int
 | .int z => z
 | _ => 0
theorem inst_of {ns : List Str} {L : List (Key × V)} (hk : L.map (·.1) = ns.map Sum.inr) (hv : ∀ q ∈ L,∃ z : Int,q.2 = .int z) : ∃ m : Str -> Int,∀ n ∈ ns,valV L (.inr n) = some (.int (m n)) := by
 refine ⟨fun n => ((valV L (.inr n)).map intOf).getD 0,fun n hn => ?_⟩
 have h1 : (L.any fun kv => decide (kv.1 = Sum.inr n)) = true := by
   have z : (Sum.inr n : Key) ∈ L.map (·.1) := by rw [hk]; exact List.mem_map_of_mem hn
   obtain ⟨q,hq,e⟩ := List.mem_map.mp z
   exact List.any_eq_true.mpr ⟨q,hq,decide_eq_true e⟩
 rw [valV_any] at h1
 obtain ⟨v,ev⟩ := Option.isSome_iff_exists.mp h1
 have hm : ∃ q ∈ L,q.2 = v := by
   unfold valV at ev
   obtain ⟨q,hq,e⟩ := Option.map_eq_some_iff.mp ev
   exact ⟨q,List.mem_of_find?_eq_some hq,e⟩
 obtain ⟨q,hq,e⟩ := hm
 obtain ⟨z,ez⟩ := hv q hq
 rw [<- e,ez] at ev
 show valV L (.inr n) = some (.int (((valV L (.inr n)).map intOf).getD 0))
 rw [ev]
 rfl
theorem inr_nodup {ns : List Str} (h : ns.Nodup) : (ns.map (Sum.inr : Str -> Key)).Nodup := by
 rw [List.nodup_iff_pairwise_ne,List.pairwise_map]
 exact (List.nodup_iff_pairwise_ne.mp h).imp fun h z => h (Sum.inr.inj z)
theorem merge_nil {L : List (Key × V)} (h : (L.map (·.1)).Nodup) : mergeK [] L = L := by
 rw [mergeK_app L [] h (fun k _ z => by simp at z)]; rfl
theorem GoodI.putL {ns0 : List Str} {H : Hp} {a F : Addr} {xs ys : List V} (h : GoodI ns0 H a) (e : H F = some (.lst xs)) : GoodI ns0 (upd H F (.lst ys)) a := by
 obtain ⟨m,ns,⟨k,r,ek,v⟩,pe⟩ := h
 have n : a ≠ F := fun z => by rcases r with r | ⟨o,r⟩ <;> (rw [z,e] at r; cases r)
 refine ⟨m,ns,⟨k,?_,ek,v⟩,pe⟩
 rcases r with r | ⟨o,r⟩
 . exact .inl (by rw [upd_ne n]; exact r)
 . exact .inr ⟨o,by rw [upd_ne n]; exact r⟩
def Bend (H : Hp) (t : Addr) : Prop := ∃ a b c : Int,H t = some (.tup [.int a,.int b,.int c]) /\ (0 <= a /\ a < 5) /\ (0 <= b /\ b < 10) /\ (0 <= c /\ c < 6)
def spSome : Sp := fun vs H Q _ => ∃ (p : Addr) (x : V) (al ag : Addr) (ml mg : Str -> Int) (ns ns2 ns0 : List Str),vs = [.ref p,x,.ref al,.ref ag] /\ PackAt H p /\ InstAt H al ml ns /\ ns.Perm ns0 /\ InstAt H ag mg ns2 /\ ns2.Perm ns0 /\ ns0.Nodup /\ ns0.length <= 24 /\ (∀ n ∈ ns0,0 <= mg n - ml n /\ mg n - ml n <= 1300) /\
 ∀ (l : Addr) (as : List Addr) (H' : Hp),H' l = some (.lst (as.map V.ref)) -> (∀ a ∈ as,GoodI ns0 H' a) -> PackAt H' p -> KfB p H H' -> Q (.ref l) H'
def SM (p F D : Addr) (ns0 : List Str) (H : Hp) (as : List Addr) (H' : Hp) : Prop := H' F = some (.lst (as.map V.ref)) /\ (∀ a ∈ as,GoodI ns0 H' a) /\ PackAt H' p /\ KfB p H H' /\ ∃ ts : List Addr,H' D = some (.lst (ts.map V.ref)) /\ ts.length = 6 /\ ∀ t ∈ ts,Bend H' t
def PN1 (p F D al ag : Addr) (x : V) (ns0 : List Str) (H : Hp) : Nat -> St -> Hp -> Prop := fun i σ H' => ∃ (as : List Addr) (o6 o7 o8 o9 o10 o11 : Option V),σ = [some (.ref p),some x,some (.ref al),some (.ref ag),some (.ref F),some (.ref D),o6,o7,o8,o9,o10,o11] /\ SM p F D ns0 H as H' /\ as.length = 2 + i
def PN2 (p F D al ag : Addr) (x : V) (ns0 : List Str) (ts : List Addr) (H : Hp) : Nat -> St -> Hp -> Prop := fun i σ H' => ∃ (as : List Addr) (o6 o7 o8 o9 o10 o11 : Option V),σ = [some (.ref p),some x,some (.ref al),some (.ref ag),some (.ref F),some (.ref D),o6,o7,o8,o9,o10,o11] /\ (H' F = some (.lst (as.map V.ref)) /\ (∀ a ∈ as,GoodI ns0 H' a) /\ PackAt H' p /\ KfB p H H' /\ H' D = some (.lst (ts.map V.ref)) /\ ∀ t ∈ ts,Bend H' t) /\ 5 <= as.length /\ as.length <= 5 + i
theorem putK_keys {kvs : List (Key × V)} {k : Key} {v : V} (h : k ∈ kvs.map (·.1)) : (putK kvs k v).map (·.1) = kvs.map (·.1) := by
 unfold putK
 have h1 : (kvs.any fun kv => decide (kv.1 = k)) = true := by
   obtain ⟨q,hq,e⟩ := List.mem_map.mp h
   exact List.any_eq_true.mpr ⟨q,hq,decide_eq_true e⟩
 rw [if_pos h1,List.map_map]
 apply List.map_congr_left
 intro q _
 show (if q.1 = k then (q.1,v) else q).1 = q.1
 split <;> rfl
theorem inst_put {H : Hp} {G : Addr} {m : Str -> Int} {ns : List Str} {kvs : List (Key × V)} {r : Str} {z : Int} (ek : kvs.map (·.1) = ns.map Sum.inr) (ev : ∀ n ∈ ns,valV kvs (.inr n) = some (.int (m n))) (hr : r ∈ ns) (e : H G = some (.dK (putK kvs (.inr r) (.int z)))) : ∃ m',InstAt H G m' ns := by
 refine ⟨fun n => if n = r then z else m n,_,.inl e,?_,fun n hn => ?_⟩
 . rw [putK_keys (by rw [ek]; exact List.mem_map_of_mem hr)]; exact ek
 . rw [valV_put]
   by_cases c : n = r
   . rw [if_pos (by rw [c])]; show _ = some (V.int (if n = r then z else m n)); rw [if_pos c]
   . rw [if_neg (fun w => c (Sum.inr.inj w))]; show _ = some (V.int (if n = r then z else m n)); rw [if_neg c]; exact ev n hn
theorem menu6 {a b c d e f i : Int} (h0 : 0 <= i) (h6 : i < 6) : ∃ w : Int,atI [V.int a,.int b,.int c,.int d,.int e,.int f] i = some (.int w) := by
 obtain ⟨k,rfl⟩ := Int.eq_ofNat_of_zero_le h0
 have hk : k < 6 := by omega
 match k,hk with
 | 0,_ => exact ⟨_,rfl⟩
 | 1,_ => exact ⟨_,rfl⟩
 | 2,_ => exact ⟨_,rfl⟩
 | 3,_ => exact ⟨_,rfl⟩
 | 4,_ => exact ⟨_,rfl⟩
 | 5,_ => exact ⟨_,rfl⟩
section
variable {P : Program} {w : World} {K : PySem.W.Frag} {mg : Str -> Option Value} {base : Heap} {t8 : Tok}
theorem sc_some : FnScope ["_law_pack_here","_law_ledger_here","_law_least","_law_greatest","_law_found","_law_bends","_law_turn","_law_base","_law_at","_law_by","_law_other","_law_row"] ["_law_pack_here","_law_ledger_here","_law_least","_law_greatest"] (defScope sSome) := ⟨rfl,rfl,rfl,by decide +kernel,rfl,by decide +kernel,by decide +kernel⟩
theorem ok_some {f F_t : Addr} {fd D_t : FuncData} (F : Fun K "_law_some" "_law_some" sSome f fd) (T : Txt mg t8)
   (G_t : FnOk P w K mg base CX0 1 F_t D_t ["_law_pack_here","_law_size"] spTake) (M_t : mg "_law_take" = some (.ref F_t)) (N_t : PySem.W.keepIn K (.ref F_t) = true) (B_t : Binds K D_t ["_law_pack_here","_law_size"] []) : FnOk P w K mg base CX0 2 f fd ["_law_pack_here","_law_ledger_here","_law_least","_law_greatest"] spSome := by
 refine F.ok sc_some (fun vs H Q E h => ?_) (fun cdv A outer s H vs Q E hr h => ?_)
 . obtain ⟨p,x,al,ag,ml,mg,ns,ns2,ns0,rfl,_⟩ := h
   rfl
 . obtain ⟨p,x,al,ag,ml,mg',ns,ns2,ns0,rfl,hp,il,pl,ig,pg,nd0,few,gap,q⟩ := h
   have sl0 : sizeLine = 16777216 := sizeLine_eq
   refine ⟨_,(pss_cons (ps_set (i := 4) sc_some.nd rfl (Or.inl rfl) (pe_lst (pa_cons (pV 2) (pa_cons (pV 3) pa_nil)))) (pss_cons (ps_setComp (i := 5) sc_some.nd rfl rfl (scX := defScope sSome) (own := ["_law_turn"]) (cap := ["_law_pack_here"]) (ix := [0]) rfl rfl ⟨rfl,by decide +kernel,by decide +kernel,by decide +kernel,rfl,by decide +kernel⟩ (pi_range1 rfl T.range (pa_cons pe_int pa_nil)) (fun b => (pg_name (i := 0) (show (["_law_turn","_law_pack_here"]:List Str).Nodup by decide +kernel) rfl (Or.inl rfl))) (fun b => pif_nil) (fun b => (pe_tup (pa_cons (pe_call G_t hr rfl M_t N_t B_t .nil pass0 (pa_cons (pV 1) (pa_cons pe_int pa_nil))) (pa_cons (pe_call G_t hr rfl M_t N_t B_t .nil pass0 (pa_cons (pV 1) (pa_cons pe_int pa_nil))) (pa_cons (pe_call G_t hr rfl M_t N_t B_t .nil pass0 (pa_cons (pV 1) (pa_cons pe_int pa_nil))) pa_nil)))))) (pss_cons (ps_for PassesOwn.never rfl (pi_range1 rfl T.range (pa_cons pe_int pa_nil)) (pg_name (i := 6) sc_some.nd rfl (Or.inl rfl)) (pss_one (ps_expr (pe_bm PySem.F.plainAttrs_list PySem.F.slot_list_append PySem.F.type_list_append mt_append (pV 4) (pa_cons (pe_callTy (call_dictL rfl) rfl T.dict (show bootBuiltins "dict" = some (.type "dict") by decide +kernel) (pa_cons (pe_comp (scX := defScope sSome) (own := ["_law_row"]) (cap := ["_law_greatest","_law_least","_law_pack_here"]) (ix := [3,2,0]) rfl rfl ⟨rfl,by decide +kernel,by decide +kernel,by decide +kernel,rfl,by decide +kernel⟩ (pi_dict (pV 2)) (fun b => (pg_name (i := 0) (show (["_law_row","_law_greatest","_law_least","_law_pack_here"]:List Str).Nodup by decide +kernel) rfl (Or.inl rfl))) (fun b => pif_nil) (fun b => (pe_tup (pa_cons (pV 0) (pa_cons (pe_op oAdd (pe_dget (hu_of hr) (pV 2) (pV 0) (fun _ _ => rfl)) (pe_call G_t hr rfl M_t N_t B_t .nil pass0 (pa_cons (pV 3) (pa_cons (pe_op oAdd (pe_op oSub (pe_dget (hu_of hr) (pV 1) (pV 0) (fun _ _ => rfl)) (pe_dget (hu_of hr) (pV 2) (pV 0) (fun _ _ => rfl))) pe_int) pa_nil)))) pa_nil))))) pa_nil)) pa_nil))))) (pss_cons (ps_for PassesOwn.never rfl (pi_list (pV 5)) (pg_tup rfl (pgs_cons (pg_name (i := 7) sc_some.nd rfl (Or.inl rfl)) (pgs_cons (pg_name (i := 8) sc_some.nd rfl (Or.inl rfl)) (pgs_cons (pg_name (i := 9) sc_some.nd rfl (Or.inl rfl)) pgs_nil)))) (pss_one (ps_if (L2.ptC (oNeD hr.units0) (pV 2) pe_dnewK (nomark _)) (pss_cons (ps_set (i := 10) sc_some.nd rfl (Or.inl rfl) (pe_callTy call_dictD rfl T.dict (show bootBuiltins "dict" = some (.type "dict") by decide +kernel) (pa_cons (pe_ix iIx (pV 4) (pV 7) (fun _ _ => rfl)) pa_nil))) (pss_cons (ps_set (i := 11) sc_some.nd rfl (Or.inl rfl) (pe_ix iIx (pe_callB (call_sortedR rfl) rfl T.sorted PyProof.Rows.boot_sorted (pa_cons (pV 10) pa_nil)) (pe_op oMod (pV 8) (pe_callB call_lenD rfl T.len PySem.boot_len (pa_cons (pV 10) pa_nil))) (fun _ _ => rfl))) (pss_cons (ps_dput (hu_of hr) (pV 10) (pV 11) (pe_op oAdd (pe_dget (hu_of hr) (pV 10) (pV 11) (fun _ _ => rfl)) (pe_ix iIx (pe_lst (pa_cons pe_int (pa_cons (pe_un uNeg pe_int) (pa_cons pe_int (pa_cons (pe_un uNeg pe_int) (pa_cons pe_int (pa_cons (pe_un uNeg pe_int) pa_nil))))))) (pV 9) (fun _ _ => rfl))) rfl) (pss_one (ps_expr (pe_bm PySem.F.plainAttrs_list PySem.F.slot_list_append PySem.F.type_list_append mt_append (pV 4) (pa_cons (pV 10) pa_nil))))))) pss_nil))) (pss_one (ps_ret (pV 4))))))),?_⟩
   have l2 := pl.length_eq
   refine ⟨by show 2 <= sizeLine; omega,fun F fF => ?_⟩
   have s1 : Same H (upd H F (.lst [.ref al,.ref ag])) := (Same.refl H).upd fF
   have eF : upd H F (.lst [.ref al,.ref ag]) F = some (.lst [.ref al,.ref ag]) := upd_same
   have nFp : F ≠ p := fun z => by obtain ⟨n,e,_⟩ := hp; rw [<- z,fF] at e; cases e
   generalize upd H F (.lst [.ref al,.ref ag]) = H1 at s1 eF ⊢
   have hp1 := pack_same hp s1
   refine ⟨6,rfl,by decide,by decide,fun D hD => comp_range (n := 6) (fun i H' => ∃ ts : List Addr,ts.length = i /\ H' D = some (.lst (ts.map V.ref)) /\ (∀ t ∈ ts,Bend H' t) /\ PackAt H' p /\ SameB p H1 H') ⟨[],rfl,upd_same,fun t ht => by simp at ht,hp1.new hD,SameB.of ((Same.refl H1).upd hD)⟩ (fun H2 hz => ?_) (fun i H2 hi hz b => ?_)⟩
   rotate_left
   . obtain ⟨ts,lts,eD,hb,pk,sb⟩ := hz
     have nDp : D ≠ p := fun z => by obtain ⟨n,e,_⟩ := hp1; rw [<- z,hD] at e; cases e
     refine ⟨p,5,rfl,pk,by decide,by decide,fun d1 H3 a0 a1 pk3 sb3 => ?_⟩
     refine ⟨p,10,rfl,pk3,by decide,by decide,fun d2 H4 b0 b1 pk4 sb4 => ?_⟩
     refine ⟨p,6,rfl,pk4,by decide,by decide,fun d3 H5 c0 c1 pk5 sb5 => ?_⟩
     refine ⟨by show 3 <= sizeLine; omega,fun t ft => ?_⟩
     have s6 : Same H5 (upd H5 t (.tup [.int d1,.int d2,.int d3])) := (Same.refl H5).upd ft
     have e6 : upd H5 t (.tup [.int d1,.int d2,.int d3]) t = some (.tup [.int d1,.int d2,.int d3]) := upd_same
     generalize upd H5 t (.tup [.int d1,.int d2,.int d3]) = H6 at s6 e6 ⊢
     have SB : SameB p H2 H6 := ((sb3.trans sb4).trans sb5).trans (SameB.of s6)
     have pk6 := pack_same pk5 s6
     have eD6 := SB D _ nDp eD
     have tt : Tups H6 (upd H6 D (.lst (ts.map V.ref ++ [.ref t]))) := fun c xs e => by rw [upd_ne (fun z => by rw [z,eD6] at e; cases e)]; exact e
     have keepB : ∀ u,Bend H2 u -> Bend (upd H6 D (.lst (ts.map V.ref ++ [.ref t]))) u := fun u ⟨a,b,c,e,r⟩ => ⟨a,b,c,tt _ _ (SB u _ (tup_ne pk e) e),r⟩
     refine ⟨ts.map V.ref,eD6,by rw [List.length_map]; omega,nx hi ⟨ts ++ [t],by rw [List.length_append,lts]; rfl,by rw [upd_same,List.map_append]; rfl,fun u hu => ?_,?_,fun b o nb e => ?_⟩⟩
     . rcases List.mem_append.mp hu with z | z
       . exact keepB u (hb u z)
       . rw [List.mem_singleton.mp z]; exact ⟨d1,d2,d3,tt _ _ e6,⟨a0,a1⟩,⟨b0,b1⟩,⟨c0,c1⟩⟩
     . obtain ⟨n,e,n0⟩ := pk6
       exact ⟨n,by rw [upd_ne (Ne.symm nDp)]; exact e,n0⟩
     . rw [upd_ne (fun z => by rw [z,hD] at e; cases e)]
       exact SB b o nb (sb b o nb e)
   . obtain ⟨ts,lts,eD,hb,pk2,sb2⟩ := hz
     have K2 : KfB p H H2 := (KfB.of s1).trans (KfB.ofB sb2)
     have M0 : SM p F D ns0 H [al,ag] H2 := ⟨sb2 F _ nFp eF,fun a ha => by
       simp only [List.mem_cons,List.not_mem_nil,or_false] at ha
       rcases ha with rfl | rfl
       . exact ⟨ml,ns,il.kf hp K2,pl⟩
       . exact ⟨mg',ns2,ig.kf hp K2,pg⟩,pk2,K2,ts,eD,lts,hb⟩
     refine ⟨3,rfl,by decide,by decide,for_range (lo := 0) (n := 3) (PN1 p F D al ag x ns0 H) ⟨[al,ag],none,none,none,none,none,none,rfl,M0,rfl⟩ (fun i σ H3 hi hz => ?_) (fun σ H3 hz => ?_)⟩
     . obtain ⟨as,o6,o7,o8,o9,o10,o11,rfl,⟨eF3,gi,pk3,K3,ts3,eD3,lts3,hb3⟩,la⟩ := hz
       have il3 := il.kf hp K3
       have ig3 := ig.kf hp K3
       obtain ⟨kvs,rd,ek,ev⟩ := id il3
       have nap := rd_ne pk3 rd
       refine ⟨.inl ⟨rfl,_,SqL.of eF3⟩,?_⟩
       refine ⟨al,kvs,rfl,rd,fun ob H4 e4 sf4 oth4 => ?_⟩
       have pk4 : PackAt H4 p := by obtain ⟨n,e,n0⟩ := pk3; exact ⟨n,by rw [oth4 p (Ne.symm nap)]; exact e,n0⟩
       have lk : kvs.length = ns.length := by have z := congrArg List.length ek; rw [List.length_map,List.length_map] at z; exact z
       refine fun D2 hD2 => comp_dict (a := al) (o := ob) (kvs := kvs) (fun j H' => ∃ ps : List (Addr × Key × V),H' D2 = some (.lst (ps.map fun q => .ref q.1)) /\ (∀ q ∈ ps,H' q.1 = some (.tup [kV q.2.1,q.2.2])) /\ ps.map (·.2.1) = (kvs.take j).map (·.1) /\ (∀ q ∈ ps,∃ z : Int,q.2.2 = .int z) /\ PackAt H' p /\ KfB p H4 H') ⟨[],upd_same,fun q hq => by simp at hq,rfl,fun q hq => by simp at hq,pk4.new hD2,KfB.of ((Same.refl H4).upd hD2)⟩ (fun j H' _ hz => by obtain ⟨_,_,_,_,_,_,K4⟩ := hz; exact K4.frz nap e4) (fun H5 hz => ?_) (fun j k xv H5 hk hj hz b => ?_)
       . obtain ⟨ps,eL,eT,ks,vi,pk5,K45⟩ := hz
         rw [List.take_length,ek] at ks
         refine ⟨D2,ps,rfl,eL,eT,fun G hG => ?_⟩
         have K35 : KfB p H3 H5 := (KfB.ofF sf4).trans K45
         have eF5 := K35.lst nFp eF3
         have kL : (ps.map (·.2)).map (·.1) = ns.map Sum.inr := by rw [List.map_map]; exact ks
         obtain ⟨m',hm'⟩ := inst_of kL (fun q hq => by obtain ⟨q',hq',rfl⟩ := List.mem_map.mp hq; exact vi q' hq')
         have em : mergeK [] (ps.map (·.2)) = ps.map (·.2) := merge_nil (by rw [kL]; exact inr_nodup (pl.nodup_iff.mpr nd0))
         rw [em]
         have s6 : Same H5 (upd H5 G (.dK (ps.map (·.2)))) := (Same.refl H5).upd hG
         have e6 : upd H5 G (.dK (ps.map (·.2))) G = some (.dK (ps.map (·.2))) := upd_same
         generalize upd H5 G (.dK (ps.map (·.2))) = H6 at s6 e6 ⊢
         have K36 : KfB p H3 H6 := K35.trans (KfB.of s6)
         have eF6 := s6 _ _ eF5
         have pk6 := pack_same pk5 s6
         refine ⟨F,as.map V.ref,.ref G,rfl,rfl,eF6,by rw [List.length_map]; omega,?_⟩
         refine ⟨as ++ [G],_,_,_,_,_,_,rfl,⟨by rw [upd_same,List.map_append]; rfl,fun a ha => ?_,?_,?_,ts3,?_,lts3,fun t ht => ?_⟩,by rw [List.length_append,la]; rfl⟩
         . rcases List.mem_append.mp ha with z | z
           . exact ((gi a z).kf pk3 K36).putL eF6
           . rw [List.mem_singleton.mp z]
             exact GoodI.putL ⟨m',ns,⟨_,.inl e6,kL,hm'⟩,pl⟩ eF6
         . obtain ⟨n,e,n0⟩ := pk6
           exact ⟨n,by rw [upd_ne (Ne.symm nFp)]; exact e,n0⟩
         . exact fun b o nb e => by rw [upd_ne (fun z => by rw [z,fF] at e; cases e)]; exact (K3.trans K36) b o nb e
         . have nDF : D ≠ F := fun z => by rw [z,eF] at hD; cases hD
           have nDp : D ≠ p := fun z => by obtain ⟨n,e,_⟩ := hp1; rw [<- z,hD] at e; cases e
           rw [upd_ne nDF]
           exact K36.lst nDp eD3
         . obtain ⟨a,b,c,e,r⟩ := hb3 t ht
           have e' := K36.tup (tup_ne pk3 e) e
           exact ⟨a,b,c,by rw [upd_ne (fun z => by rw [z,eF6] at e'; cases e')]; exact e',r⟩
       . obtain ⟨ps,eL,eT,ks,vi,pk5,K45⟩ := hz
         have K35 : KfB p H3 H5 := (KfB.ofF sf4).trans K45
         obtain ⟨n,hn,rfl⟩ : ∃ n,ns[j]? = some n /\ k = .inr n := by
           have z : (kvs.map (·.1))[j]? = some k := by rw [List.getElem?_map,hk]; rfl
           rw [ek,List.getElem?_map] at z
           obtain ⟨n,e1,e2⟩ := Option.map_eq_some_iff.mp z
           exact ⟨n,e1,e2.symm⟩
         have hn0 := pl.mem_iff.mp (List.mem_of_getElem? hn)
         have gp := gap n hn0
         have gl5 := (il3.kf pk3 K35).mom.get (List.mem_of_getElem? hn)
         have gg5 := (ig3.kf pk3 K35).mom.get (pg.mem_iff.mpr hn0)
         refine ⟨al,.int (ml n),rfl,gl5,?_⟩
         refine ⟨ag,.int (mg' n),rfl,gg5,?_⟩
         refine ⟨al,.int (ml n),rfl,gl5,?_⟩
         refine ⟨p,mg' n - ml n + 1,rfl,pk5,by omega,by omega,fun dd H6 d0 d1 pk6 sb6 => ?_⟩
         refine ⟨by show 2 <= sizeLine; omega,fun t ft => ?_⟩
         have s7 : Same H6 (upd H6 t (.tup [kV (Sum.inr n),(fun i j => V.int (i + j)) (ml n) dd])) := (Same.refl H6).upd ft
         have e7 : upd H6 t (.tup [kV (Sum.inr n),(fun i j => V.int (i + j)) (ml n) dd]) t = some (.tup [.str n,.int (ml n + dd)]) := upd_same
         generalize upd H6 t (.tup [kV (Sum.inr n),(fun i j => V.int (i + j)) (ml n) dd]) = H7 at s7 e7 ⊢
         have K57 : KfB p H5 H7 := (KfB.ofB sb6).trans (KfB.of s7)
         have nD2p : D2 ≠ p := fun z => by obtain ⟨n,e,_⟩ := pk4; rw [<- z,hD2] at e; cases e
         have eL7 := K57.lst nD2p eL
         have lps : ps.length = j := by
           have z := congrArg List.length ks
           rw [List.length_map,List.length_map,List.length_take] at z
           omega
         have tt : Tups H7 (upd H7 D2 (.lst (ps.map (fun q => V.ref q.1) ++ [.ref t]))) := fun c xs e => by rw [upd_ne (fun z => by rw [z,eL7] at e; cases e)]; exact e
         refine ⟨_,eL7,by rw [List.length_map]; omega,nx hj ⟨ps ++ [(t,.inr n,.int (ml n + dd))],by rw [upd_same,List.map_append]; rfl,fun q hq => ?_,?_,fun q hq => ?_,?_,fun b o nb e => ?_⟩⟩
         . rcases List.mem_append.mp hq with z | z
           . exact tt _ _ (K57.tup (tup_ne pk5 (eT q z)) (eT q z))
           . rw [List.mem_singleton.mp z]; exact tt _ _ e7
         . rw [List.map_append,ks,List.take_add_one,hk,List.map_append]; rfl
         . rcases List.mem_append.mp hq with z | z
           . exact vi q z
           . rw [List.mem_singleton.mp z]; exact ⟨_,rfl⟩
         . obtain ⟨n',e,n0⟩ := pack_same pk6 s7
           exact ⟨n',by rw [upd_ne (Ne.symm nD2p)]; exact e,n0⟩
         . rw [upd_ne (fun z => by rw [z,hD2] at e; cases e)]
           exact (K45.trans K57) b o nb e
     . obtain ⟨as,o6,o7,o8,o9,o10,o11,rfl,⟨eF3,gi,pk3,K3,ts3,eD3,lts3,hb3⟩,la⟩ := hz
       have nDp : D ≠ p := fun z => by obtain ⟨n,e,_⟩ := hp1; rw [<- z,hD] at e; cases e
       have nDF : D ≠ F := fun z => by rw [z,eF] at hD; cases hD
       refine ⟨D,rfl,⟨_,SqL.of eD3⟩,for_list (xs := ts3.map V.ref) (PN2 p F D al ag x ns0 ts3 H) ⟨as,_,_,_,_,_,_,rfl,⟨eF3,gi,pk3,K3,eD3,hb3⟩,by omega,by omega⟩ (fun i σ H' _ hz => by obtain ⟨_,_,_,_,_,_,_,_,⟨_,_,_,_,e,_⟩,_⟩ := hz; exact SqL.of e) (fun i v σ H4 hv hz => ?_) (fun σ H4 hz => ?_)⟩
       . obtain ⟨as,o6,o7,o8,o9,o10,o11,rfl,⟨eF4,gi4,pk4,K4,eD4,hb4⟩,la5,la6⟩ := hz
         have ilt : i < 6 := by
           have z := (List.getElem?_eq_some_iff.mp hv).1
           rw [List.length_map] at z; omega
         rw [List.getElem?_map] at hv
         obtain ⟨t,ht,rfl⟩ := Option.map_eq_some_iff.mp hv
         obtain ⟨b1,b2,b3,et,⟨b1a,b1b⟩,⟨b2a,b2b⟩,⟨b3a,b3b⟩⟩ := hb4 t (List.mem_of_getElem? ht)
         refine ⟨t,_,rfl,SqT.of et,rfl,_,_,rfl,_,_,rfl,_,_,rfl,rfl,?_⟩
         have il4 := il.kf hp K4
         obtain ⟨kvs,rd,ek,ev⟩ := id il4
         have lk : kvs.length = ns.length := by have z := congrArg List.length ek; rw [List.length_map,List.length_map] at z; exact z
         refine fun p5 f5 => ?_
         have s5 : Same H4 (upd H4 p5 (.dK [])) := (Same.refl H4).upd f5
         have e5 : upd H4 p5 (.dK []) p5 = some (.dK []) := upd_same
         generalize upd H4 p5 (.dK []) = H5 at s5 e5 ⊢
         have K45 : KfB p H4 H5 := KfB.of s5
         have pk5 := pack_same pk4 s5
         refine ⟨⟨al,p5,kvs,rfl,rfl,K45.rd (rd_ne pk4 rd) rd,e5,?_⟩⟩
         cases ek0 : kvs.isEmpty with
         | true =>
           refine ⟨as,_,_,_,_,_,_,rfl,⟨s5 _ _ eF4,fun a ha => (gi4 a ha).kf pk4 K45,pk5,K4.trans K45,s5 _ _ eD4,fun t ht => ?_⟩,la5,by omega⟩
           obtain ⟨a,b,c,e,r⟩ := hb4 t ht
           exact ⟨a,b,c,s5 _ _ e,r⟩
         | false =>
           have kpos : 0 < kvs.length := by
             cases kvs with
             | nil => cases ek0
             | cons _ _ => exact Nat.succ_pos _
           obtain ⟨k1,rfl⟩ := Int.eq_ofNat_of_zero_le b1a
           obtain ⟨a',ha'⟩ : ∃ a',as[k1]? = some a' := ⟨_,List.getElem?_eq_getElem (by omega)⟩
           obtain ⟨m1,n1,⟨more,rda,ek1,ev1⟩,pe1⟩ := (gi4 a' (List.mem_of_getElem? ha')).kf pk4 K45
           refine ixAt (s5 _ _ eF4) (v := .ref a') (atI_nat (by rw [List.getElem?_map,ha']; rfl)) ?_
           refine ⟨a',more,rfl,rda,fun G fG => ?_⟩
           have s6 : Same H5 (upd H5 G (.dK more)) := (Same.refl H5).upd fG
           have e6 : upd H5 G (.dK more) G = some (.dK more) := upd_same
           generalize upd H5 G (.dK more) = H6 at s6 e6 ⊢
           have lm : more.length = n1.length := by have z := congrArg List.length ek1; rw [List.length_map,List.length_map] at z; exact z
           have ln1 := pe1.length_eq
           refine ⟨G,more,n1,rfl,.inl e6,ek1,by omega,fun l1 ss f1 pm1 so1 => ?_⟩
           have s7 : Same H6 (upd H6 l1 (.lst (ss.map V.str))) := (Same.refl H6).upd f1
           have e7 : upd H6 l1 (.lst (ss.map V.str)) l1 = some (.lst (ss.map V.str)) := upd_same
           generalize upd H6 l1 (.lst (ss.map V.str)) = H7 at s7 e7 ⊢
           have lss := pm1.length_eq
           refine ⟨G,more,rfl,s7 _ _ e6,?_⟩
           refine ⟨by show (0 : Int) < (more.length : Int); omega,?_⟩
           obtain ⟨k2,ek2⟩ := Int.eq_ofNat_of_zero_le (Int.emod_nonneg b2 (show (more.length : Int) ≠ 0 by omega))
           have lt2 := Int.emod_lt_of_pos b2 (show (0 : Int) < (more.length : Int) by omega)
           obtain ⟨r,hr'⟩ : ∃ r,ss[k2]? = some r := ⟨_,List.getElem?_eq_getElem (by omega)⟩
           have hrn : r ∈ n1 := pm1.mem_iff.mp (List.mem_of_getElem? hr')
           refine ixAt e7 (v := .str r) (by rw [ek2]; exact atI_nat (by rw [List.getElem?_map,hr']; rfl)) ?_
           refine ⟨G,.int (m1 r),rfl,.inl ⟨more,.inr r,.inl (s7 _ _ e6),rfl,(ev1 r hrn).symm⟩,?_⟩
           refine ⟨by show 6 <= sizeLine; omega,fun l2 f2 => ?_⟩
           obtain ⟨w6,ew6⟩ := menu6 (a := 1) (b := -1) (c := 2) (d := -2) (e := 10) (f := -10) b3a b3b
           have s8 : Same H7 (upd H7 l2 (.lst [.int 1,.int (-1),.int 2,.int (-2),.int 10,.int (-10)])) := (Same.refl H7).upd f2
           have e8 : upd H7 l2 (.lst [.int 1,.int (-1),.int 2,.int (-2),.int 10,.int (-10)]) l2 = some (.lst [.int 1,.int (-1),.int 2,.int (-2),.int 10,.int (-10)]) := upd_same
           refine ixAt e8 (v := .int w6) ew6 ?_
           generalize upd H7 l2 (.lst [.int 1,.int (-1),.int 2,.int (-2),.int 10,.int (-10)]) = H8 at s8 e8 ⊢
           have S58 : Same H5 H8 := (s6.trans s7).trans s8
           have eG8 := s8 _ _ (s7 _ _ e6)
           refine ⟨G,_,rfl,DPut.k (k := Sum.inr r) eG8 (by omega),?_⟩
           obtain ⟨H9,eH9⟩ : ∃ H9,H9 = upd H8 G (.dK (putK more (.inr r) (.int (m1 r + w6)))) := ⟨_,rfl⟩
           have e9 : H9 G = some (.dK (putK more (.inr r) (.int (m1 r + w6)))) := by rw [eH9]; exact upd_same
           have S59 : Same H5 H9 := fun b o e => by rw [eH9,upd_ne (ne_of_none e fG)]; exact S58 b o e
           refine (show ∀ H',H' = H9 -> _ from fun H' eH' => ?_) _ eH9.symm
           subst eH'
           have eF9 := S59 _ _ (s5 _ _ eF4)
           have K49 : KfB p H4 H' := K45.trans (KfB.of S59)
           have pk9 := pack_same pk5 S59
           refine ⟨.inl ⟨rfl,_,SqL.of eF9⟩,?_⟩
           refine ⟨F,as.map V.ref,.ref G,rfl,rfl,eF9,by rw [List.length_map]; omega,?_⟩
           obtain ⟨m2,im2⟩ := inst_put ek1 ev1 hrn e9
           refine ⟨as ++ [G],_,_,_,_,_,_,rfl,⟨by rw [upd_same,List.map_append]; rfl,fun a ha => ?_,?_,?_,?_,fun t ht => ?_⟩,by rw [List.length_append]; omega,by rw [List.length_append]; show _ + 1 <= _; omega⟩
           . rcases List.mem_append.mp ha with z | z
             . exact ((gi4 a z).kf pk4 K49).putL eF9
             . rw [List.mem_singleton.mp z]
               exact GoodI.putL ⟨m2,n1,im2,pe1⟩ eF9
           . obtain ⟨n,e,n0⟩ := pk9
             exact ⟨n,by rw [upd_ne (Ne.symm nFp)]; exact e,n0⟩
           . exact fun b o nb e => by rw [upd_ne (fun z => by rw [z,fF] at e; cases e)]; exact (K4.trans K49) b o nb e
           . rw [upd_ne nDF]
             exact S59 _ _ (s5 _ _ eD4)
           . obtain ⟨a,b,c,e,r⟩ := hb4 t ht
             have e' := S59 _ _ (s5 _ _ e)
             exact ⟨a,b,c,by rw [upd_ne (fun z => by rw [z,eF9] at e'; cases e')]; exact e',r⟩
       . obtain ⟨as,o6,o7,o8,o9,o10,o11,rfl,⟨eF4,gi4,pk4,K4,_⟩,_⟩ := hz
         exact q F as H4 eF4 gi4 pk4 K4
end
end K04
namespace K04
open PySem L2 K02
theorem sqlF {K : PySem.W.Frag} {H H' : Hp} {a : Addr} {xs : List V} (s : SameF H H') (h : SqL K H a xs) : SqL K H' a xs := by
 rcases h with (h | ⟨o,h⟩) | h
 . exact .inl (.inl (s.lst h))
 . exact .inl (.inr ⟨o,s.frz h⟩)
 . exact .inr h
theorem packF {p : Addr} {H H1 H2 : Hp} (s : SameF H H1) (f : H p = none) (k : KfB p H1 H2) : SameF H H2 := fun b o e => by
 have n : b ≠ p := fun z => by rw [z,f] at e; cases e
 rcases s b o e with q | ⟨kvs,ob,rfl,q⟩
 . exact k b o n q
 . exact .inr ⟨kvs,ob,rfl,k.frz n q⟩
theorem ledger_off {H : Hp} {v : V} {hs : List House} {ls : List Letter} (h : DaAt H v (.tup [housesDa hs,lettersDa ls])) : LedgerAt H v hs ls := by
 obtain ⟨a,vs,rfl,e,_,r⟩ := h.tupE
 obtain ⟨v1,v2,rfl,r1,r2⟩ := r.two
 exact ⟨a,v1,v2,rfl,e,HousesAt.off r1,LettersAt.off r2⟩
def spLaw (K : PySem.W.Frag) : Sp := fun vs H Q _ => ∃ (a : Addr) (ns : List Int),vs = [.ref a] /\ SqL K H a (ns.map V.int) /\ ns.length <= 63 /\ (∀ n ∈ ns,Bits n) /\ ∀ H',Q (.bl true) H'
theorem inst_ofP {ns : List Str} {L : List (Key × V)} {P : Str -> Int -> Prop} (hk : L.map (·.1) = ns.map Sum.inr) (hv : ∀ q ∈ L,∃ (n : Str) (z : Int),q.1 = .inr n /\ q.2 = .int z /\ P n z) : ∃ m : Str -> Int,∀ n ∈ ns,valV L (.inr n) = some (.int (m n)) /\ P n (m n) := by
 refine ⟨fun n => ((valV L (.inr n)).map intOf).getD 0,fun n hn => ?_⟩
 have h1 : (L.any fun kv => decide (kv.1 = Sum.inr n)) = true := by
   have z : (Sum.inr n : Key) ∈ L.map (·.1) := by rw [hk]; exact List.mem_map_of_mem hn
   obtain ⟨q,hq,e⟩ := List.mem_map.mp z
   exact List.any_eq_true.mpr ⟨q,hq,decide_eq_true e⟩
 rw [valV_any] at h1
 obtain ⟨v,ev⟩ := Option.isSome_iff_exists.mp h1
 have hm : ∃ q ∈ L,q.1 = Sum.inr n /\ q.2 = v := by
   unfold valV at ev
   obtain ⟨q,hq,e⟩ := Option.map_eq_some_iff.mp ev
   exact ⟨q,List.mem_of_find?_eq_some hq,(by have z := List.find?_some hq; simpa using z),e⟩
 obtain ⟨q,hq,e1,e⟩ := hm
 obtain ⟨n',z,ez1,ez,pz⟩ := hv q hq
 rw [e1] at ez1
 cases ez1
 rw [<- e,ez] at ev
 show valV L (.inr n) = some (.int (((valV L (.inr n)).map intOf).getD 0)) /\ P n (((valV L (.inr n)).map intOf).getD 0)
 rw [ev]
 exact ⟨rfl,pz⟩
theorem strs_no {n : Int} {ss : List Str} (h : some (HO.lst [.int n]) = some (.lst (ss.map V.str))) : False := by
 match ss,h with
 | [],h => cases h
 | _ :: _,h => cases h
def LN (H : Hp) (x : V) (p : Addr) (hs : List House) (ls : List Letter) (H' : Hp) : Prop := LedgerAt H' x hs ls /\ PackAt H' p /\ SameF H H'
def PL1 (a : Addr) (H : Hp) : Nat -> St -> Hp -> Prop := fun i σ H' => ∃ (o1 o2 o3 o4 o5 o6 : Option V),σ = [some (.ref a),o1,o2,o3,o4,o5,o6] /\ SameF H H'
def PL2 (a p : Addr) (v1 x v4 v5 : V) (hs : List House) (ls : List Letter) (l : Addr) (as : List Addr) (H : Hp) : Nat -> St -> Hp -> Prop := fun i σ H' => ∃ (o6 : Option V),σ = [some (.ref a),some v1,some x,some (.ref p),some v4,some v5,o6] /\ LN H x p hs ls H' /\ H' l = some (.lst (as.map V.ref)) /\ ∀ b ∈ as,GoodI (namesOf hs) H' b
def hA : House := ⟨"a",0,0,0,[]⟩
theorem hA_good : GoodHouses [hA] := by
 have ga : Good "a" := by
   refine ⟨by decide +kernel,by decide +kernel,fun c hc => ?_⟩
   have h : ("a" : Str).cps.toList.all low = true := by decide +kernel
   exact List.all_eq_true.mp h c hc
 refine ⟨by decide,by decide,fun h hh => ?_,by simp,by simp [namesOf,namesH,rowsH,hA],by simp [namesOf,namesH,rowsH,hA]⟩
 rw [List.mem_singleton.mp hh]
 exact ⟨ga,by decide,by decide,by decide,fun r hr => by simp [hA] at hr⟩
theorem seq_join {t u : TS} {D : Ends} {σ : St} {H : Hp} (N : St -> Hp -> Prop) (h : ∀ U : St -> Hp -> Prop,(∀ σ' H',N σ' H' -> U σ' H') -> t { D with nx := U } σ H) (hN : ∀ σ' H',N σ' H' -> u D σ' H') : tSeq t u D σ H := h (u D) hN
def Two (hs : List House) (al ag : Addr) (H : Hp) : Prop := ∃ ml mg ns ns2,InstAt H al ml ns /\ ns.Perm (namesOf hs) /\ InstAt H ag mg ns2 /\ ns2.Perm (namesOf hs) /\ ∀ n ∈ namesOf hs,0 <= mg n - ml n /\ mg n - ml n <= 1300
def One (hs : List House) (ls : List Letter) (al : Addr) (H : Hp) : Prop := ∃ ml ns,InstAt H al ml ns /\ ns.Perm (namesOf hs) /\ placB hs ls ml = true
section
variable {P : Program} {w : World} {K : PySem.W.Frag} {mg : Str -> Option Value} {base : Heap} {t8 : Tok}
theorem sc_law : FnScope ["_law_script","_law_k","_law_ledger_here","_law_pack_here","_law_least","_law_greatest","_law_instants"] ["_law_script"] (defScope sLaw) := ⟨rfl,rfl,rfl,by decide +kernel,rfl,by decide +kernel,by decide +kernel⟩
theorem ok_law {f F_l F_p F_t F_z20 F_z25 F_z22 F_z12 F_z26 F_z27 F_z28 F_z24 : Addr} {fd D_l D_p D_t D_z20 D_z25 D_z22 D_z12 D_z26 D_z27 D_z28 D_z24 : FuncData} (F : Fun K "law" "law" sLaw f fd) (T : Txt mg t8)
   (G_l : FnOk P w K mg base CX0 5 F_l D_l ["_law_script","_law_k"] (spMkLedger K)) (M_l : mg "_law_ledger" = some (.ref F_l)) (N_l : PySem.W.keepIn K (.ref F_l) = true) (B_l : Binds K D_l ["_law_script","_law_k"] [])
   (G_p : FnOk P w K mg base CX0 5 F_p D_p ["_law_script","_law_k"] (spPack K)) (M_p : mg "_law_pack" = some (.ref F_p)) (N_p : PySem.W.keepIn K (.ref F_p) = true) (B_p : Binds K D_p ["_law_script","_law_k"] [])
   (G_t : FnOk P w K mg base CX0 5 F_t D_t ["_law_pack_here","_law_size"] spTake) (M_t : mg "_law_take" = some (.ref F_t)) (N_t : PySem.W.keepIn K (.ref F_t) = true) (B_t : Binds K D_t ["_law_pack_here","_law_size"] [])
   (G_z20 : FnOk P w K mg base CX0 5 F_z20 D_z20 ["_law_pack_here","_law_ledger_here"] spBent) (M_z20 : mg "_law_bent" = some (.ref F_z20)) (N_z20 : PySem.W.keepIn K (.ref F_z20) = true) (B_z20 : Binds K D_z20 ["_law_pack_here","_law_ledger_here"] [])
   (G_z25 : FnOk P w K mg base CX0 5 F_z25 D_z25 ["_law_ledger_here","_law_side"] spMoments) (M_z25 : mg "_law_moments" = some (.ref F_z25)) (N_z25 : PySem.W.keepIn K (.ref F_z25) = true) (B_z25 : Binds K D_z25 ["_law_ledger_here","_law_side"] [])
   (G_z22 : FnOk P w K mg base CX0 5 F_z22 D_z22 ["_law_ledger_here"] spRows) (M_z22 : mg "_law_rows" = some (.ref F_z22)) (N_z22 : PySem.W.keepIn K (.ref F_z22) = true) (B_z22 : Binds K D_z22 ["_law_ledger_here"] [])
   (G_z12 : FnOk P w K mg base CX0 5 F_z12 D_z12 ["ledger","thing"] spPlacing) (M_z12 : mg "is_placing" = some (.ref F_z12)) (N_z12 : PySem.W.keepIn K (.ref F_z12) = true) (B_z12 : Binds K D_z12 ["ledger","thing"] [])
   (G_z26 : FnOk P w K mg base CX0 5 F_z26 D_z26 ["_law_instants"] spTold) (M_z26 : mg "_law_told" = some (.ref F_z26)) (N_z26 : PySem.W.keepIn K (.ref F_z26) = true) (B_z26 : Binds K D_z26 ["_law_instants"] [])
   (G_z27 : FnOk P w K mg base CX0 5 F_z27 D_z27 ["_law_found","_law_due"] spIs) (M_z27 : mg "_law_is" = some (.ref F_z27)) (k_is : PySem.W.keepIn K (.ref F_z27) = true) (B_z27 : Binds K D_z27 ["_law_found","_law_due"] [])
   (G_z28 : FnOk P w K mg base CX0 5 F_z28 D_z28 ["_law_pack_here","_law_ledger_here","_law_least","_law_greatest"] spSome) (M_z28 : mg "_law_some" = some (.ref F_z28)) (N_z28 : PySem.W.keepIn K (.ref F_z28) = true) (B_z28 : Binds K D_z28 ["_law_pack_here","_law_ledger_here","_law_least","_law_greatest"] [])
   (G_z24 : FnOk P w K mg base CX0 5 F_z24 D_z24 ["_law_ledger_here","_law_instants"] spKeeps) (M_z24 : mg "_law_keeps" = some (.ref F_z24)) (N_z24 : PySem.W.keepIn K (.ref F_z24) = true) (B_z24 : Binds K D_z24 ["_law_ledger_here","_law_instants"] []) : FnOk P w K mg base CX0 6 f fd ["_law_script"] (spLaw K) := by
 refine F.ok sc_law (fun vs H Q E h => ?_) (fun cdv A outer s H vs Q E hr h => ?_)
 . obtain ⟨a,ns,rfl,_⟩ := h
   rfl
 . obtain ⟨a,ns,rfl,ha,hl,hb,q⟩ := h
   refine ⟨_,(pss_cons (ps_for PassesOwn.never rfl (pi_range3 rfl T.range (pa_cons pe_int (pa_cons (pe_callB (call_max2 rfl) rfl T.max PyProof.Rows.boot_max (pa_cons pe_int (pa_cons (pe_callB (call_min2 rfl) rfl T.min PyProof.Rows.boot_min (pa_cons (pe_callB call_len_seq rfl T.len PySem.boot_len (pa_cons (pV 0) pa_nil)) (pa_cons pe_int pa_nil))) pa_nil))) (pa_cons pe_int pa_nil)))) (pg_name (i := 1) sc_law.nd rfl (Or.inl rfl)) (pss_cons (ps_set (i := 2) sc_law.nd rfl (Or.inl rfl) (pe_call G_l hr rfl M_l N_l B_l .nil pass0 (pa_cons (pV 0) (pa_cons (pV 1) pa_nil)))) (pss_cons (ps_set (i := 3) sc_law.nd rfl (Or.inr rfl) (pe_call G_p hr rfl M_p N_p B_p .nil pass0 (pa_cons (pV 0) (pa_cons (pe_op oAdd (pV 1) pe_int) pa_nil)))) (pss_cons (ps_if (ptC oEq (pe_call G_t hr rfl M_t N_t B_t .nil pass0 (pa_cons (pV 3) (pa_cons pe_int pa_nil))) pe_int (nomark _)) (pss_one (ps_set (i := 2) sc_law.nd rfl (Or.inl rfl) (pe_call G_z20 hr rfl M_z20 N_z20 B_z20 .nil pass0 (pa_cons (pV 3) (pa_cons (pV 2) pa_nil))))) pss_nil) (pss_cons (ps_asg (pe_tup (pa_cons (pe_call G_z25 hr rfl M_z25 N_z25 B_z25 .nil pass0 (pa_cons (pV 2) (pa_cons pe_int pa_nil))) (pa_cons (pe_call G_z25 hr rfl M_z25 N_z25 B_z25 .nil pass0 (pa_cons (pV 2) (pa_cons pe_int pa_nil))) pa_nil))) (pg_tup rfl (pgs_cons (pg_name (i := 4) sc_law.nd rfl (Or.inr rfl)) (pgs_cons (pg_name (i := 5) sc_law.nd rfl (Or.inl rfl)) pgs_nil)))) (pss_cons (ps_if (pt_cmp (pc_isN (pV 4))) (pss_cons (ps_set (i := 4) sc_law.nd rfl (Or.inr rfl) (pe_callTy (call_dictL rfl) rfl T.dict (show bootBuiltins "dict" = some (.type "dict") by decide +kernel) (pa_cons (pe_comp (scX := defScope sLaw) (own := ["_law_row"]) (cap := ["_law_pack_here"]) (ix := [3]) rfl rfl ⟨rfl,by decide +kernel,by decide +kernel,by decide +kernel,rfl,by decide +kernel⟩ (pi_list (pe_call G_z22 hr rfl M_z22 N_z22 B_z22 .nil pass0 (pa_cons (pV 2) pa_nil))) (fun b => (pg_name (i := 0) (show (["_law_row","_law_pack_here"]:List Str).Nodup by decide +kernel) rfl (Or.inl rfl))) (fun b => pif_nil) (fun b => (pe_tup (pa_cons (pV 0) (pa_cons (pe_op oSub (pe_call G_t hr rfl M_t N_t B_t .nil pass0 (pa_cons (pV 1) (pa_cons pe_int pa_nil))) pe_int) pa_nil))))) pa_nil))) (pss_one (ps_set (i := 5) sc_law.nd rfl (Or.inl rfl) (pe_callTy (call_dictL rfl) rfl T.dict (show bootBuiltins "dict" = some (.type "dict") by decide +kernel) (pa_cons (pe_comp (scX := defScope sLaw) (own := ["_law_row"]) (cap := ["_law_least","_law_pack_here"]) (ix := [4,3]) rfl rfl ⟨rfl,by decide +kernel,by decide +kernel,by decide +kernel,rfl,by decide +kernel⟩ (pi_dict (pV 4)) (fun b => (pg_name (i := 0) (show (["_law_row","_law_least","_law_pack_here"]:List Str).Nodup by decide +kernel) rfl (Or.inl rfl))) (fun b => pif_nil) (fun b => (pe_tup (pa_cons (pV 0) (pa_cons (pe_op oAdd (pe_dget (hu_of hr) (pV 1) (pV 0) (fun _ _ => rfl)) (pe_call G_t hr rfl M_t N_t B_t .nil pass0 (pa_cons (pV 2) (pa_cons pe_int pa_nil)))) pa_nil))))) pa_nil))))) (pss_one (ps_if (pt_not (L2.ptV (pe_call G_z27 hr rfl M_z27 k_is B_z27 .nil pass0 (pa_cons (pe_call G_z12 hr rfl M_z12 N_z12 B_z12 .nil pass0 (pa_cons (pV 2) (pa_cons (pe_call G_z26 hr rfl M_z26 N_z26 B_z26 .nil pass0 (pa_cons (pV 4) pa_nil)) pa_nil))) (pa_cons pe_bl pa_nil))))) (pss_one (ps_ret pe_bl)) pss_nil))) (pss_one (ps_for PassesOwn.never rfl (pi_list (pe_call G_z28 hr rfl M_z28 N_z28 B_z28 .nil pass0 (pa_cons (pV 3) (pa_cons (pV 2) (pa_cons (pV 4) (pa_cons (pV 5) pa_nil)))))) (pg_name (i := 6) sc_law.nd rfl (Or.inl rfl)) (pss_one (ps_if (pt_not (L2.ptV (pe_call G_z27 hr rfl M_z27 k_is B_z27 .nil pass0 (pa_cons (pe_call G_z12 hr rfl M_z12 N_z12 B_z12 .nil pass0 (pa_cons (pV 2) (pa_cons (pe_call G_z26 hr rfl M_z26 N_z26 B_z26 .nil pass0 (pa_cons (pV 6) pa_nil)) pa_nil))) (pa_cons (pe_call G_z24 hr rfl M_z24 N_z24 B_z24 .nil pass0 (pa_cons (pV 2) (pa_cons (pV 6) pa_nil))) pa_nil))))) (pss_one (ps_ret pe_bl)) pss_nil)))))))))) (pss_one (ps_ret (pe_call G_z27 hr rfl M_z27 k_is B_z27 .nil pass0 (pa_cons (pe_call G_z12 hr rfl M_z12 N_z12 B_z12 .nil pass0 (pa_cons (pe_tup (pa_cons (pe_tup (pa_cons (pe_tup (pa_cons pe_str (pa_cons pe_int (pa_cons pe_int (pa_cons pe_int (pa_cons (pe_tup pa_nil) pa_nil)))))) pa_nil)) (pa_cons (pe_tup pa_nil) pa_nil))) (pa_cons (pe_tup pa_nil) pa_nil))) (pa_cons pe_bl pa_nil)))))),?_⟩
   have sl0 : sizeLine = 16777216 := sizeLine_eq
   refine ⟨a,_,rfl,.inl ha,?_⟩
   refine ⟨_,21,rfl,?_⟩
   refine ⟨1,_,rfl,?_⟩
   obtain ⟨mx,emx,mx1,mx2⟩ : ∃ mx : Int,mx = (if (if (21 : Int) < ((ns.map V.int).length : Int) then 21 else ((ns.map V.int).length : Int)) > 1 then (if (21 : Int) < ((ns.map V.int).length : Int) then 21 else ((ns.map V.int).length : Int)) else 1) /\ 1 <= mx /\ mx <= 21 := ⟨_,rfl,by split <;> omega,by split <;> (try split) <;> omega⟩
   rw [<- emx]
   have en : Builtin.Range.rangeSize 0 mx 7 <= 3 := by
     unfold Builtin.Range.rangeSize
     rw [if_pos (by decide),if_pos (by omega)]
     omega
   refine ⟨0,mx,7,rfl,⟨by decide,by decide,by omega,by omega,by decide,by decide⟩,for_range3 (PL1 a H) ⟨none,none,none,none,none,none,rfl,SameF.refl H⟩ (fun i σ H1 hi hz => ?_) (fun σ H1 hz => ?_)⟩
   . obtain ⟨o1,o2,o3,o4,o5,o6,rfl,S1⟩ := hz
     refine ⟨a,ns,0 + (i : Int) * 7,rfl,sqlF S1 ha,hb,hl,by omega,by omega,fun x hs ls H2 lat gh gl nm nar s2 => ?_⟩
     have S2 := S1.trans (SameF.of s2)
     refine ⟨a,ns,0 + (i : Int) * 7 + 6,rfl,sqlF S2 ha,hb,hl,by omega,by omega,fun p H3 fp pk s3 => ?_⟩
     have S3 := S2.trans (SameF.of s3)
     have fpH : H p = none := by
       cases z : H p with
       | none => rfl
       | some u =>
         rcases S2 p u z with w | ⟨_,_,_,w⟩ <;> (rw [fp] at w; cases w)
     refine gn ?_
     dsimp only
     refine if_join (fun σ' H' => ∃ (x' : V) (hs' : List House) (ls' : List Letter),σ' = [some (.ref a),some (.int (0 + (i : Int) * 7)),some x',some (.ref p),o4,o5,o6] /\ LN H x' p hs' ls' H' /\ GoodHouses hs' /\ GoodLetters hs' ls' /\ ∀ h ∈ hs',h.high - h.low <= 1300) (fun U hU => ?_) (fun σ' H' hN => ?_)
     . refine ⟨p,2,rfl,pk,by decide,by decide,fun d H4 d0 d1 pk4 sb4 => ?_⟩
       have S4 := packF S3 fpH (KfB.ofB sb4)
       have lat4 : LedgerAt H4 x hs ls := lat.ts fun b xs e => (KfB.ofB sb4).tup (tup_ne pk (s3 _ _ e)) (s3 _ _ e)
       show (if decide (d = 1) = true then _ else _)
       by_cases c : d = 1
       . rw [if_pos (decide_eq_true c)]
         refine ⟨p,x,hs,ls,rfl,pk4,lat4.da gh gl,gh,gl,nar,fun y hs' ls' H5 da gh' gl' nmm nar' pk5 sb5 => ?_⟩
         exact hU _ _ ⟨y,hs',ls',rfl,⟨ledger_off da,pk5,packF S4 fpH (KfB.ofB sb5)⟩,gh',gl',nar'⟩
       . rw [if_neg (by simpa using c)]
         exact hU _ _ ⟨x,hs,ls,rfl,⟨lat4,pk4,S4⟩,gh,gl,fun h hh => by have := nar h hh; omega⟩
     . clear lat gh gl nm nar
       obtain ⟨x,hs,ls,rfl,⟨lat,pk,S4⟩,gh,gl,nar⟩ := hN
       have gapOf : ∀ (ml mg' : Str -> Int),placB hs ls ml = true -> (∀ m',placB hs ls m' = true -> ∀ n ∈ namesOf hs,m' n <= mg' n) -> (∀ h ∈ hs,∀ r ∈ rowsH h,mg' r.1 <= r.2 - h.low) -> ∀ n ∈ namesOf hs,0 <= mg' n - ml n /\ mg' n - ml n <= 1300 := fun ml mg' e1 e2 e3 n hn => by
         have z1 := e2 ml e1 n hn
         obtain ⟨k,hk,hn'⟩ := List.mem_flatMap.mp hn
         obtain ⟨r,hr',rfl⟩ := List.mem_map.mp hn'
         have z2 := e3 k hk r hr'
         have z3 := (keep_parts.mp (plac_keep e1 hk)).1 r hr'
         unfold rowB at z3
         have z4 : r.2 - ml r.1 <= k.high := of_decide_eq_true (Bool.and_eq_true_iff.mp z3).2
         have z5 := nar k hk
         omega
       refine seq_join (fun σ' H' => ∃ (v4 v5 : V),σ' = [some (.ref a),some (.int (0 + (i : Int) * 7)),some x,some (.ref p),some v4,some v5,o6] /\ LN H x p hs ls H' /\ (v4 = .non ∨ ∃ al ag,v4 = .ref al /\ v5 = .ref ag /\ One hs ls al H' /\ Two hs al ag H')) (fun U hU => ?_) (fun σ' H'' hN => ?_)
       . refine ⟨x,0,hs,ls,rfl,.inl rfl,lat,gh,gl,(fun H5 s5 no => ?_),(fun al ml ss1 H5 fal eal pm1 s5 g0 g1 => ?_)⟩
         . have fin : ∀ (v5 : V) (H6 : Hp),Same H5 H6 -> ∀ t,H6 t = none -> U [some (.ref a),some (.int (0 + (i : Int) * 7)),some x,some (.ref p),some .non,some v5,o6] (upd H6 t (.tup [.non,v5])) := fun v5 H6 s6 t ft => by
             have S := (s5.trans s6).upd (o := .tup [.non,v5]) ft
             exact hU _ _ ⟨.non,v5,rfl,⟨lat.ts S.tups,pack_same pk S,S4.trans (SameF.of S)⟩,.inl rfl⟩
           refine ⟨x,1,hs,ls,rfl,.inr rfl,lat.ts s5.tups,gh,gl,(fun H6 s6 _ => ?_),(fun ag mg' ss2 H6 _ _ _ s6 _ _ => ?_)⟩
           . refine ⟨by show 2 <= sizeLine; omega,fun t ft => ?_⟩
             refine ⟨t,_,rfl,SqT.of upd_same,rfl,_,_,rfl,_,_,rfl,rfl,?_⟩
             exact fin _ _ s6 t ft
           . refine ⟨by show 2 <= sizeLine; omega,fun t ft => ?_⟩
             refine ⟨t,_,rfl,SqT.of upd_same,rfl,_,_,rfl,_,_,rfl,rfl,?_⟩
             exact fin _ _ s6 t ft
         . have pl := g0 rfl
           refine ⟨x,1,hs,ls,rfl,.inr rfl,lat.ts s5.tups,gh,gl,(fun H6 s6 no => by rw [no ml] at pl; cases pl),(fun ag mg' ss2 H6 fag eag pm2 s6 _ g1' => ?_)⟩
           refine ⟨by show 2 <= sizeLine; omega,fun t ft => ?_⟩
           refine ⟨t,_,rfl,SqT.of upd_same,rfl,_,_,rfl,_,_,rfl,rfl,?_⟩
           have s7 : Same H6 (upd H6 t (.tup [.ref al,.ref ag])) := (Same.refl H6).upd ft
           have S := (s5.trans s6).trans s7
           have i1 : ∀ {H' : Hp} {b : Addr} {m : Str -> Int} {ss : List Str},H' b = some (.dK (kvT ss m)) -> InstAt H' b m ss := fun e => ⟨_,.inl e,kvT_keys _ _,fun n hn => kvT_val hn⟩
           obtain ⟨u1,u2⟩ := g1' rfl
           have gp := gapOf ml mg' pl (fun m' em n hn => u1 m' em n (pm2.mem_iff.mpr hn)) u2
           exact hU _ _ ⟨.ref al,.ref ag,rfl,⟨lat.ts S.tups,pack_same pk S,S4.trans (SameF.of S)⟩,.inr ⟨al,ag,rfl,rfl,⟨ml,ss1,i1 (s7 _ _ (s6 _ _ eal)),pm1,pl⟩,ml,mg',ss1,ss2,i1 (s7 _ _ (s6 _ _ eal)),pm1,i1 (s7 _ _ eag),pm2,gp⟩⟩
       . clear gapOf lat pk S4
         obtain ⟨v4,v5,rfl,⟨lat,pk,S4⟩,vv⟩ := hN
         refine if_join (fun σ' H' => ∃ al ag,σ' = [some (.ref a),some (.int (0 + (i : Int) * 7)),some x,some (.ref p),some (.ref al),some (.ref ag),o6] /\ LN H x p hs ls H' /\ Two hs al ag H') (fun U hU => ?_) (fun σ' H5 hN => ?_)
         . rcases vv with rfl | ⟨al,ag,rfl,rfl,⟨ml,ns1,il,pl,pb⟩,two⟩
           . refine ⟨_,rfl,?_⟩
             have few := gh.few
             refine ⟨x,hs,ls,rfl,lat,gh,fun lr ss H6 er s6 pm so => ?_⟩
             have pk6 := pack_same pk s6
             have nds : ss.Nodup := pm.nodup_iff.mpr gh.rows
             have lss := pm.length_eq
             refine ⟨lr,rfl,⟨_,SqL.of er⟩,fun D hD => comp_list (xs := ss.map V.str) (fun j H' => ∃ ps : List (Addr × Key × V),H' D = some (.lst (ps.map fun q => .ref q.1)) /\ (∀ q ∈ ps,H' q.1 = some (.tup [kV q.2.1,q.2.2])) /\ ps.map (·.2.1) = (ss.take j).map Sum.inr /\ (∀ q ∈ ps,∃ (n : Str) (z : Int),q.2.1 = .inr n /\ q.2.2 = .int z /\ True) /\ PackAt H' p /\ KfB p H6 H') ⟨[],upd_same,fun q hq => by simp at hq,rfl,fun q hq => by simp at hq,pk6.new hD,KfB.of ((Same.refl H6).upd hD)⟩ (fun j H' _ hz => ?_) (fun H7 hz => ?_) (fun j y H7 hy hj hz b => ?_)⟩
             . obtain ⟨_,_,_,_,_,_,k⟩ := hz
               exact SqL.of (k.lst (fun z => by obtain ⟨n,e,_⟩ := pk6; rw [z,e] at er; exact strs_no er) er)
             . obtain ⟨ps,eL,eT,ks,vi,pk7,K67⟩ := hz
               rw [List.length_map,List.take_length] at ks
               refine ⟨D,ps,rfl,eL,eT,fun al fal => ?_⟩
               have kL : (ps.map (·.2)).map (·.1) = ss.map Sum.inr := by rw [List.map_map]; exact ks
               obtain ⟨ml,hml⟩ := inst_ofP (P := fun _ _ => True) kL (fun q hq => by obtain ⟨q',hq',rfl⟩ := List.mem_map.mp hq; exact vi q' hq')
               have em : mergeK [] (ps.map (·.2)) = ps.map (·.2) := merge_nil (by rw [kL]; exact inr_nodup nds)
               rw [em]
               have s8 : Same H7 (upd H7 al (.dK (ps.map (·.2)))) := (Same.refl H7).upd fal
               have e8 : upd H7 al (.dK (ps.map (·.2))) al = some (.dK (ps.map (·.2))) := upd_same
               generalize upd H7 al (.dK (ps.map (·.2))) = H8 at s8 e8 ⊢
               have pk8 := pack_same pk7 s8
               have K8 : KfB p H'' H8 := ((KfB.of s6).trans K67).trans (KfB.of s8)
               have il8 : InstAt H8 al ml ss := ⟨_,.inl e8,kL,fun n hn => (hml n hn).1⟩
               have nap : al ≠ p := rd_ne pk8 (.inl e8)
               clear eL eT ks vi
               refine ⟨al,ps.map (·.2),rfl,.inl e8,fun ob H9 e9 sf9 oth9 => ?_⟩
               have pk9 : PackAt H9 p := by obtain ⟨n,e,n0⟩ := pk8; exact ⟨n,by rw [oth9 p (Ne.symm nap)]; exact e,n0⟩
               have lk : (ps.map (·.2)).length = ss.length := by have z := congrArg List.length kL; simpa using z
               refine fun D2 hD2 => comp_dict (a := al) (o := ob) (kvs := ps.map (·.2)) (fun j H' => ∃ qs : List (Addr × Key × V),H' D2 = some (.lst (qs.map fun q => .ref q.1)) /\ (∀ q ∈ qs,H' q.1 = some (.tup [kV q.2.1,q.2.2])) /\ qs.map (·.2.1) = ((ps.map (·.2)).take j).map (·.1) /\ (∀ q ∈ qs,∃ (n : Str) (z : Int),q.2.1 = .inr n /\ q.2.2 = .int z /\ (0 <= z - ml n /\ z - ml n <= 1300)) /\ PackAt H' p /\ KfB p H9 H') ⟨[],upd_same,fun q hq => by simp at hq,rfl,fun q hq => by simp at hq,pk9.new hD2,KfB.of ((Same.refl H9).upd hD2)⟩ (fun j H' _ hz => by obtain ⟨_,_,_,_,_,_,K4⟩ := hz; exact K4.frz nap e9) (fun H10 hz => ?_) (fun j k xv H10 hk hj hz b => ?_)
               . obtain ⟨qs,eL,eT,ks,vi,pk10,K910⟩ := hz
                 rw [List.take_length,kL] at ks
                 refine ⟨D2,qs,rfl,eL,eT,fun ag fag => ?_⟩
                 have kL2 : (qs.map (·.2)).map (·.1) = ss.map Sum.inr := by rw [List.map_map]; exact ks
                 obtain ⟨mg',hmg⟩ := inst_ofP (P := fun n z => 0 <= z - ml n /\ z - ml n <= 1300) kL2 (fun q hq => by obtain ⟨q',hq',rfl⟩ := List.mem_map.mp hq; exact vi q' hq')
                 have em2 : mergeK [] (qs.map (·.2)) = qs.map (·.2) := merge_nil (by rw [kL2]; exact inr_nodup nds)
                 rw [em2]
                 have s11 : Same H10 (upd H10 ag (.dK (qs.map (·.2)))) := (Same.refl H10).upd fag
                 have e11 : upd H10 ag (.dK (qs.map (·.2))) ag = some (.dK (qs.map (·.2))) := upd_same
                 generalize upd H10 ag (.dK (qs.map (·.2))) = H11 at s11 e11 ⊢
                 have K811 : KfB p H8 H11 := ((KfB.ofF sf9).trans K910).trans (KfB.of s11)
                 exact hU _ _ ⟨al,ag,rfl,⟨lat.ts ((K8.trans K811).tups pk),pack_same pk10 s11,packF S4 fpH (K8.trans K811)⟩,ml,mg',ss,ss,il8.kf pk8 K811,pm,⟨_,.inl e11,kL2,fun n hn => (hmg n hn).1⟩,pm,fun n hn => (hmg n (pm.mem_iff.mpr hn)).2⟩
               . obtain ⟨qs,eL,eT,ks,vi,pk10,K910⟩ := hz
                 have K810 : KfB p H8 H10 := (KfB.ofF sf9).trans K910
                 obtain ⟨n,hn,rfl⟩ : ∃ n,ss[j]? = some n /\ k = .inr n := by
                   have z : ((ps.map (·.2)).map (·.1))[j]? = some k := by rw [List.getElem?_map,hk]; rfl
                   rw [kL,List.getElem?_map] at z
                   obtain ⟨n,e1,e2⟩ := Option.map_eq_some_iff.mp z
                   exact ⟨n,e1,e2.symm⟩
                 refine ⟨al,.int (ml n),rfl,(il8.kf pk8 K810).mom.get (List.mem_of_getElem? hn),?_⟩
                 refine ⟨p,30,rfl,pk10,by decide,by decide,fun dd H11 d0 d1 pk11 sb11 => ?_⟩
                 refine ⟨by show 2 <= sizeLine; omega,fun t ft => ?_⟩
                 have s12 : Same H11 (upd H11 t (.tup [kV (Sum.inr n),(fun i j => V.int (i + j)) (ml n) dd])) := (Same.refl H11).upd ft
                 have e12 : upd H11 t (.tup [kV (Sum.inr n),(fun i j => V.int (i + j)) (ml n) dd]) t = some (.tup [.str n,.int (ml n + dd)]) := upd_same
                 generalize upd H11 t (.tup [kV (Sum.inr n),(fun i j => V.int (i + j)) (ml n) dd]) = H12 at s12 e12 ⊢
                 have K1012 : KfB p H10 H12 := (KfB.ofB sb11).trans (KfB.of s12)
                 have nD2p : D2 ≠ p := fun z => by obtain ⟨n,e,_⟩ := pk9; rw [<- z,hD2] at e; cases e
                 have eL12 := K1012.lst nD2p eL
                 have lqs : qs.length = j := by
                   have z := congrArg List.length ks
                   rw [List.length_map,List.length_map,List.length_take] at z
                   omega
                 have tt : Tups H12 (upd H12 D2 (.lst (qs.map (fun q => V.ref q.1) ++ [.ref t]))) := fun c xs e => by rw [upd_ne (fun z => by rw [z,eL12] at e; cases e)]; exact e
                 refine ⟨_,eL12,by rw [List.length_map]; omega,nx hj ⟨qs ++ [(t,.inr n,.int (ml n + dd))],by rw [upd_same,List.map_append]; rfl,fun q hq => ?_,?_,fun q hq => ?_,?_,fun b o nb e => ?_⟩⟩
                 . rcases List.mem_append.mp hq with z | z
                   . exact tt _ _ (K1012.tup (tup_ne pk10 (eT q z)) (eT q z))
                   . rw [List.mem_singleton.mp z]; exact tt _ _ e12
                 . rw [List.map_append,ks,List.take_add_one,hk,List.map_append]; rfl
                 . rcases List.mem_append.mp hq with z | z
                   . exact vi q z
                   . rw [List.mem_singleton.mp z]; exact ⟨n,_,rfl,rfl,by omega,by omega⟩
                 . obtain ⟨n',e,n0⟩ := pack_same pk11 s12
                   exact ⟨n',by rw [upd_ne (Ne.symm nD2p)]; exact e,n0⟩
                 . rw [upd_ne (fun z => by rw [z,hD2] at e; cases e)]
                   exact (K910.trans K1012) b o nb e
             . obtain ⟨ps,eL,eT,ks,vi,pk7,K67⟩ := hz
               rw [List.getElem?_map] at hy
               obtain ⟨n,hn,rfl⟩ := Option.map_eq_some_iff.mp hy
               refine ⟨p,41,rfl,pk7,by decide,by decide,fun dd H8 d0 d1 pk8 sb8 => ?_⟩
               refine ⟨by show 2 <= sizeLine; omega,fun t ft => ?_⟩
               have s9 : Same H8 (upd H8 t (.tup [.str n,(fun i j => V.int (i - j)) dd 20])) := (Same.refl H8).upd ft
               have e9 : upd H8 t (.tup [.str n,(fun i j => V.int (i - j)) dd 20]) t = some (.tup [.str n,.int (dd - 20)]) := upd_same
               generalize upd H8 t (.tup [.str n,(fun i j => V.int (i - j)) dd 20]) = H9 at s9 e9 ⊢
               have K79 : KfB p H7 H9 := (KfB.ofB sb8).trans (KfB.of s9)
               have nDp : D ≠ p := fun z => by obtain ⟨n,e,_⟩ := pk6; rw [<- z,hD] at e; cases e
               have eL9 := K79.lst nDp eL
               have lps : ps.length <= ss.length := by
                 have z := congrArg List.length ks
                 rw [List.length_map,List.length_map,List.length_take] at z
                 omega
               have tt : Tups H9 (upd H9 D (.lst (ps.map (fun q => V.ref q.1) ++ [.ref t]))) := fun c xs e => by rw [upd_ne (fun z => by rw [z,eL9] at e; cases e)]; exact e
               refine ⟨_,eL9,by rw [List.length_map]; omega,nx hj ⟨ps ++ [(t,.inr n,.int (dd - 20))],by rw [upd_same,List.map_append]; rfl,fun q hq => ?_,?_,fun q hq => ?_,?_,fun b o nb e => ?_⟩⟩
               . rcases List.mem_append.mp hq with z | z
                 . exact tt _ _ (K79.tup (tup_ne pk7 (eT q z)) (eT q z))
                 . rw [List.mem_singleton.mp z]; exact tt _ _ e9
               . rw [List.map_append,ks,List.take_add_one,hn,List.map_append]; rfl
               . rcases List.mem_append.mp hq with z | z
                 . exact vi q z
                 . rw [List.mem_singleton.mp z]; exact ⟨n,_,rfl,rfl,True.intro⟩
               . obtain ⟨n',e,n0⟩ := pack_same pk8 s9
                 exact ⟨n',by rw [upd_ne (Ne.symm nDp)]; exact e,n0⟩
               . rw [upd_ne (fun z => by rw [z,hD] at e; cases e)]
                 exact (K67.trans K79) b o nb e
           . refine ⟨_,rfl,?_⟩
             refine ⟨al,ml,ns1,rfl,il,by rw [pl.length_eq]; exact gh.few,fun pt ss H6 rt pm so s6 => ?_⟩
             refine ⟨x,.ref pt,hs,ls,ss,ml,rfl,lat.ts s6.tups,gh,gl,rt,pm.trans pl,so,fun H7 s7 => ?_⟩
             rw [pb]
             refine ⟨true,true,rfl,?_⟩
             have S := s6.trans s7
             obtain ⟨m1,m2,n1,n2,j1,j2,j3,j4,j5⟩ := two
             exact hU _ _ ⟨al,ag,rfl,⟨lat.ts S.tups,pack_same pk S,S4.trans (SameF.of S)⟩,m1,m2,n1,n2,j1.same (SameF.of S),j2,j3.same (SameF.of S),j4,j5⟩
         . clear lat pk S4 vv
           obtain ⟨al,ag,rfl,⟨lat,pk,S4⟩,ml,mg',n1,n2,j1,j2,j3,j4,j5⟩ := hN
           refine ⟨p,x,al,ag,ml,mg',n1,n2,namesOf hs,rfl,pk,j1,j2,j3,j4,gh.rows,gh.few,j5,fun l as H6 el gi pk6 k6 => ?_⟩
           have S6 := packF S4 fpH k6
           refine ⟨l,rfl,⟨_,SqL.of el⟩,for_list (xs := as.map V.ref) (PL2 a p (.int (0 + (i : Int) * 7)) x (.ref al) (.ref ag) hs ls l as H) ⟨o6,rfl,⟨lat.ts (k6.tups pk),pk6,S6⟩,el,gi⟩ (fun j σ H' _ hz => by obtain ⟨_,_,_,e,_⟩ := hz; exact SqL.of e) (fun j v σ H7 hv hz => ?_) (fun σ H7 hz => ?_)⟩
           . obtain ⟨o6,rfl,⟨lat7,pk7,S7⟩,el7,gi7⟩ := hz
             rw [List.getElem?_map] at hv
             obtain ⟨b,hb',rfl⟩ := Option.map_eq_some_iff.mp hv
             obtain ⟨m,nsb,ib,pb⟩ := gi7 b (List.mem_of_getElem? hb')
             refine ⟨b,m,nsb,rfl,ib,by rw [pb.length_eq]; exact gh.few,fun pt ss H8 rt pm so s8 => ?_⟩
             refine ⟨x,.ref pt,hs,ls,ss,m,rfl,lat7.ts s8.tups,gh,gl,rt,pm.trans pb,so,fun H9 s9 => ?_⟩
             have S79 := s8.trans s9
             refine ⟨x,b,hs,ls,m,rfl,lat7.ts S79.tups,gh,gl,((ib.same (SameF.of S79)).mom).part (fun n hn => pb.mem_iff.mpr hn),fun H10 s10 => ?_⟩
             refine ⟨placB hs ls m,placB hs ls m,rfl,?_⟩
             rw [beq_self_eq_true]
             have S := S79.trans s10
             exact ⟨_,rfl,⟨lat7.ts S.tups,pack_same pk7 S,S7.trans (SameF.of S)⟩,S _ _ el7,fun c hc => let ⟨m,ns,i,e⟩ := gi7 c hc; ⟨m,ns,i.same (SameF.of S),e⟩⟩
           . obtain ⟨o6,rfl,⟨lat7,pk7,S7⟩,_⟩ := hz
             exact ⟨_,_,_,_,_,_,rfl,S7⟩
   . obtain ⟨o1,o2,o3,o4,o5,o6,rfl,S1⟩ := hz
     refine ⟨by show 0 <= sizeLine; omega,fun p1 f1 => ?_⟩
     have s1 : Same H1 (upd H1 p1 (.tup [])) := (Same.refl H1).upd f1
     have e1 : upd H1 p1 (.tup []) p1 = some (.tup []) := upd_same
     generalize upd H1 p1 (.tup []) = K1 at s1 e1 ⊢
     refine ⟨by show 5 <= sizeLine; omega,fun p2 f2 => ?_⟩
     have s2 : Same K1 (upd K1 p2 (.tup [.str "a",.int 0,.int 0,.int 0,.ref p1])) := (Same.refl K1).upd f2
     have e2 : upd K1 p2 (.tup [.str "a",.int 0,.int 0,.int 0,.ref p1]) p2 = some (.tup [.str "a",.int 0,.int 0,.int 0,.ref p1]) := upd_same
     generalize upd K1 p2 (.tup [.str "a",.int 0,.int 0,.int 0,.ref p1]) = K2 at s2 e2 ⊢
     refine ⟨by show 1 <= sizeLine; omega,fun p3 f3 => ?_⟩
     have s3 : Same K2 (upd K2 p3 (.tup [.ref p2])) := (Same.refl K2).upd f3
     have e3 : upd K2 p3 (.tup [.ref p2]) p3 = some (.tup [.ref p2]) := upd_same
     generalize upd K2 p3 (.tup [.ref p2]) = K3 at s3 e3 ⊢
     refine ⟨by show 0 <= sizeLine; omega,fun p4 f4 => ?_⟩
     have s4 : Same K3 (upd K3 p4 (.tup [])) := (Same.refl K3).upd f4
     have e4 : upd K3 p4 (.tup []) p4 = some (.tup []) := upd_same
     generalize upd K3 p4 (.tup []) = K4 at s4 e4 ⊢
     refine ⟨by show 2 <= sizeLine; omega,fun p5 f5 => ?_⟩
     have s5 : Same K4 (upd K4 p5 (.tup [.ref p3,.ref p4])) := (Same.refl K4).upd f5
     have e5 : upd K4 p5 (.tup [.ref p3,.ref p4]) p5 = some (.tup [.ref p3,.ref p4]) := upd_same
     generalize upd K4 p5 (.tup [.ref p3,.ref p4]) = K5 at s5 e5 ⊢
     refine ⟨by show 0 <= sizeLine; omega,fun p6 f6 => ?_⟩
     have s6 : Same K5 (upd K5 p6 (.tup [])) := (Same.refl K5).upd f6
     have e6 : upd K5 p6 (.tup []) p6 = some (.tup []) := upd_same
     generalize upd K5 p6 (.tup []) = K6 at s6 e6 ⊢
     have t3 : Same K3 K6 := (s4.trans s5).trans s6
     have t2 : Same K2 K6 := s3.trans t3
     have t1 : Same K1 K6 := s2.trans t2
     refine ⟨.ref p5,.ref p6,[hA],[],[],fun _ => 0,rfl,⟨p5,.ref p3,.ref p4,rfl,s6 _ _ e5,⟨p3,[.ref p2],rfl,t3 _ _ e3,.cons ⟨p2,.ref p1,rfl,t2 _ _ e2,p1,[],rfl,t1 _ _ e1,.nil⟩ .nil⟩,p4,[],rfl,(s5.trans s6) _ _ e4,.nil⟩,hA_good,⟨by decide,fun l hl => by simp at hl,by simp⟩,⟨p6,[],rfl,e6,.nil⟩,by simp [namesOf,namesH,rowsH,hA],rfl,fun H' s' => ?_⟩
     have e : placB [hA] [] (fun _ => 0) = true := by
       refine Bool.and_eq_true_iff.mpr ⟨List.all_eq_true.mpr fun h hh => ?_,rfl⟩
       rw [List.mem_singleton.mp hh]
       exact keep_parts.mpr ⟨fun r hr => by simp [rowsH,hA] at hr,rfl,fun r hr => by simp [hA] at hr⟩
     rw [e]
     exact ⟨true,true,rfl,q _⟩
end
end K04
namespace K04
open PySem L2 K02
theorem weight_mem : ∀ {xs : List PySem.W.WData} {x : PySem.W.WData},x ∈ xs -> PySem.W.WData.weight x <= PySem.W.WData.weightAll xs
 | y :: xs,x,h => by
   unfold PySem.W.WData.weightAll
   rcases List.mem_cons.mp h with z | z
   . rw [z]; omega
   . have := weight_mem z; omega
theorem bits_of {ns : List Int} (h : PySem.W.WData.layableAll [PySem.W.WData.list (ns.map PySem.W.WData.int)] = true) : ∀ n ∈ ns,Bits n := fun n hn => by
 have h1 := List.all_eq_true.mp h _ List.mem_cons_self
 unfold PySem.W.WData.layable at h1
 have h2 := of_decide_eq_true (Bool.and_eq_true_iff.mp h1).2
 unfold PySem.W.WData.weight at h2
 have h3 := weight_mem (List.mem_map_of_mem (f := PySem.W.WData.int) hn)
 unfold PySem.W.WData.weight at h3
 have e : (2 : Nat) ^ 20 = 1048576 := by decide
 rw [e] at h2
 exact Nat.le_trans h3 h2
theorem walk_bits {l : PySem.W.OpenLaw} {n k : Nat} {q : Program} {loose : List Str} {XP : (Str -> Option Value) -> Heap -> Prop} {YP : World -> Heap -> Prop} {d : DefRec} {K : Params -> PySem.W.Frag} {CX : World -> CXT} {sp : World -> Sp} {x : Str}
   (hn : l.most = some n) (hn2 : n <= sizeLine) (hdf : d.params.defaults = []) (hr : Room k callerA) (hY : ∀ (w : World) (h : Heap),YP w h -> (K w.params).In h)
   (F : ∀ (w : World) (mg : Str -> Option Value) (fa : Addr) (h : Heap),(K w.params).In h -> h.Ns mainGlobals mg -> mg d.name = some (.ref fa) ->
     ∃ fd : FuncData,(∀ (s : Shared) (u : Value),BindsTo s fd ⟨[u],[]⟩ [(x,u)]) /\ ∀ base : Heap,(K w.params).In base -> base.Ns mainGlobals mg -> FnOk l.prog w (K w.params) mg base (CX w) k fa fd [x] (sp w))
   (hsp : ∀ (w : World) (H : Hp) (a : Addr) (ns : List Int),ns.length <= n -> (∀ m ∈ ns,Bits m) -> Only H -> SqL (K w.params) H a (ns.map V.int) -> sp w [.ref a] H (fun v _ => v = .bl true) fun _ _ _ => False)
   (hCX : ∀ (w : World) (H : Hp) (s : Shared) (e : Value) (s' : Shared),CX w [] H s (fun _ _ _ => False) e s' -> False) : PySem.W.WalkO q loose XP YP l.row.toRowW d [] (fun f vs => PySem.call f vs) := by
 intro w s₀ s₁ mg mb G Y fa o pm cd doc dV kV ho hd hcd hD hmg hg args vals as hpre hlay hrd hwl hlo
 obtain rfl : dV = .none := PySem.W.Dflts.none hD hdf
 obtain rfl : kV = .none := PySem.W.Dflts.noKw hD
 obtain ⟨a,vs,ns,rfl,rfl,hobj,hints,hlen⟩ := Att.script_of hn hpre hwl
 have KX := hY w _ Y
 obtain ⟨fd,hb,hF⟩ := F w mg fa _ KX G.T.g hmg
 have key := law_call KX G.T.g G.T.b G.T.builtins G.T.nolimit hg hobj hints (Nat.le_trans hlen hn2) hr hF hb (fun H hO hS => hsp w H a ns hlen (bits_of hlay) hO hS) fun H e s' => hCX w H s₁ e s'
 refine PySem.W.enter_call (codeAny_mono key fun r s' hq => ?_)
 obtain ⟨rfl,h2,h3,h4⟩ := hq
 exact ⟨.inl ⟨.bool true,.bool true,[],rfl,fun _ => rfl,.bool true,Att.post_true l _,fun _ => ⟨List.Pairwise.nil,fun _ hm => (nomatch hm)⟩⟩,h2,h3,h4⟩
theorem all_mk {l : PySem.W.OpenLaw} {w : World} {K : PySem.W.Frag} {h : Heap} {mg : Str -> Option Value} {fa f1 f2 f3 f4 f5 f6 f7 f8 f9 f10 f11 f12 f13 f14 f15 f16 f17 f18 f19 f20 f21 f22 f23 f24 f25 f26 f27 f28 f29 f30 : Addr} {t8 : Tok} (X : K.In h) (G : h.Ns mainGlobals mg) (hfa : mg "law" = some (.ref fa))
   {od1 an1 od2 an2 od3 an3 od4 an4 od5 an5 od6 an6 od7 an7 od8 an8 od9 an9 od10 an10 od11 an11 od12 an12 od13 an13 od14 an14 od15 an15 od16 an16 od17 an17 od18 an18 od19 an19 od20 an20 od21 an21 od22 an22 od23 an23 od24 an24 od25 an25 od26 an26 od27 an27 od28 an28 od29 an29 od30 an30 : Option Addr} {sl1 sl2 sl3 sl4 sl5 sl6 sl7 sl8 sl9 sl10 sl11 sl12 sl13 sl14 sl15 sl16 sl17 sl18 sl19 sl20 sl21 sl22 sl23 sl24 sl25 sl26 sl27 sl28 sl29 sl30 : Array (Option Value)} {oc1 kV1 dc1 pm1 cd1 ct1 oc2 kV2 dc2 pm2 cd2 ct2 oc3 kV3 dc3 pm3 cd3 ct3 oc4 kV4 dc4 pm4 cd4 ct4 oc5 kV5 dc5 pm5 cd5 ct5 oc6 kV6 dc6 pm6 cd6 ct6 oc7 kV7 dc7 pm7 cd7 ct7 oc8 kV8 dc8 pm8 cd8 ct8 oc9 kV9 dc9 pm9 cd9 ct9 oc10 kV10 dc10 pm10 cd10 ct10 oc11 kV11 dc11 pm11 cd11 ct11 oc12 kV12 dc12 pm12 cd12 ct12 oc13 kV13 dc13 pm13 cd13 ct13 oc14 kV14 dc14 pm14 cd14 ct14 oc15 kV15 dc15 pm15 cd15 ct15 oc16 kV16 dc16 pm16 cd16 ct16 oc17 kV17 dc17 pm17 cd17 ct17 oc18 kV18 dc18 pm18 cd18 ct18 oc19 kV19 dc19 pm19 cd19 ct19 oc20 kV20 dc20 pm20 cd20 ct20 oc21 kV21 dc21 pm21 cd21 ct21 oc22 kV22 dc22 pm22 cd22 ct22 oc23 kV23 dc23 pm23 cd23 ct23 oc24 kV24 dc24 pm24 cd24 ct24 oc25 kV25 dc25 pm25 cd25 ct25 oc26 kV26 dc26 pm26 cd26 ct26 oc27 kV27 dc27 pm27 cd27 ct27 oc28 kV28 dc28 pm28 cd28 ct28 oc29 kV29 dc29 pm29 cd29 ct29 oc30 kV30 dc30 pm30 cd30 ct30 : Value}
   (a1 : PySem.W.nsIn K mainGlobals "is_whole" = some (some (.ref f1))) (l1 : K.lookup f1 = some ⟨oc1,od1,.func (PySem.W.fnOf "is_whole" "is_whole" (defArgs sWhole) (defBody sWhole) (defScope sWhole) .none kV1 dc1 pm1 an1 cd1 ct1),sl1⟩) (c1 : PySem.W.codeIn K cd1 "is_whole" = true) (k1 : PySem.W.keepIn K (.ref f1) = true)
   (a2 : PySem.W.nsIn K mainGlobals "is_name" = some (some (.ref f2))) (l2 : K.lookup f2 = some ⟨oc2,od2,.func (PySem.W.fnOf "is_name" "is_name" (defArgs sName) (defBody sName) (defScope sName) .none kV2 dc2 pm2 an2 cd2 ct2),sl2⟩) (c2 : PySem.W.codeIn K cd2 "is_name" = true) (k2 : PySem.W.keepIn K (.ref f2) = true)
   (a3 : PySem.W.nsIn K mainGlobals "has_parts" = some (some (.ref f3))) (l3 : K.lookup f3 = some ⟨oc3,od3,.func (PySem.W.fnOf "has_parts" "has_parts" (defArgs sParts) (defBody sParts) (defScope sParts) .none kV3 dc3 pm3 an3 cd3 ct3),sl3⟩) (c3 : PySem.W.codeIn K cd3 "has_parts" = true) (k3 : PySem.W.keepIn K (.ref f3) = true)
   (a4 : PySem.W.nsIn K mainGlobals "is_named_number" = some (some (.ref f4))) (l4 : K.lookup f4 = some ⟨oc4,od4,.func (PySem.W.fnOf "is_named_number" "is_named_number" (defArgs sNamed) (defBody sNamed) (defScope sNamed) .none kV4 dc4 pm4 an4 cd4 ct4),sl4⟩) (c4 : PySem.W.codeIn K cd4 "is_named_number" = true) (k4 : PySem.W.keepIn K (.ref f4) = true)
   (a5 : PySem.W.nsIn K mainGlobals "rows_in" = some (some (.ref f5))) (l5 : K.lookup f5 = some ⟨oc5,od5,.func (PySem.W.fnOf "rows_in" "rows_in" (defArgs sRowsIn) (defBody sRowsIn) (defScope sRowsIn) .none kV5 dc5 pm5 an5 cd5 ct5),sl5⟩) (c5 : PySem.W.codeIn K cd5 "rows_in" = true) (k5 : PySem.W.keepIn K (.ref f5) = true)
   (a6 : PySem.W.nsIn K mainGlobals "neighbours_in" = some (some (.ref f6))) (l6 : K.lookup f6 = some ⟨oc6,od6,.func (PySem.W.fnOf "neighbours_in" "neighbours_in" (defArgs sNeigh) (defBody sNeigh) (defScope sNeigh) .none kV6 dc6 pm6 an6 cd6 ct6),sl6⟩) (c6 : PySem.W.codeIn K cd6 "neighbours_in" = true) (k6 : PySem.W.keepIn K (.ref f6) = true)
   (a7 : PySem.W.nsIn K mainGlobals "row_names" = some (some (.ref f7))) (l7 : K.lookup f7 = some ⟨oc7,od7,.func (PySem.W.fnOf "row_names" "row_names" (defArgs sRowNames) (defBody sRowNames) (defScope sRowNames) .none kV7 dc7 pm7 an7 cd7 ct7),sl7⟩) (c7 : PySem.W.codeIn K cd7 "row_names" = true) (k7 : PySem.W.keepIn K (.ref f7) = true)
   (a8 : PySem.W.nsIn K mainGlobals "rows_of" = some (some (.ref f8))) (l8 : K.lookup f8 = some ⟨oc8,od8,.func (PySem.W.fnOf "rows_of" "rows_of" (defArgs sRowsOf) (defBody sRowsOf) (defScope sRowsOf) .none kV8 dc8 pm8 an8 cd8 ct8),sl8⟩) (c8 : PySem.W.codeIn K cd8 "rows_of" = true) (k8 : PySem.W.keepIn K (.ref f8) = true)
   (a9 : PySem.W.nsIn K mainGlobals "names_each_row" = some (some (.ref f9))) (l9 : K.lookup f9 = some ⟨oc9,od9,.func (PySem.W.fnOf "names_each_row" "names_each_row" (defArgs sEach) (defBody sEach) (defScope sEach) .none kV9 dc9 pm9 an9 cd9 ct9),sl9⟩) (c9 : PySem.W.codeIn K cd9 "names_each_row" = true) (k9 : PySem.W.keepIn K (.ref f9) = true)
   (a10 : PySem.W.nsIn K mainGlobals "keeps_drift" = some (some (.ref f10))) (l10 : K.lookup f10 = some ⟨oc10,od10,.func (PySem.W.fnOf "keeps_drift" "keeps_drift" (defArgs sKDrift) (defBody sKDrift) (defScope sKDrift) .none kV10 dc10 pm10 an10 cd10 ct10),sl10⟩) (c10 : PySem.W.codeIn K cd10 "keeps_drift" = true) (k10 : PySem.W.keepIn K (.ref f10) = true)
   (a11 : PySem.W.nsIn K mainGlobals "keeps_house" = some (some (.ref f11))) (l11 : K.lookup f11 = some ⟨oc11,od11,.func (PySem.W.fnOf "keeps_house" "keeps_house" (defArgs sKHouse) (defBody sKHouse) (defScope sKHouse) .none kV11 dc11 pm11 an11 cd11 ct11),sl11⟩) (c11 : PySem.W.codeIn K cd11 "keeps_house" = true) (k11 : PySem.W.keepIn K (.ref f11) = true)
   (a12 : PySem.W.nsIn K mainGlobals "keeps_letter" = some (some (.ref f12))) (l12 : K.lookup f12 = some ⟨oc12,od12,.func (PySem.W.fnOf "keeps_letter" "keeps_letter" (defArgs sKLetter) (defBody sKLetter) (defScope sKLetter) .none kV12 dc12 pm12 an12 cd12 ct12),sl12⟩) (c12 : PySem.W.codeIn K cd12 "keeps_letter" = true) (k12 : PySem.W.keepIn K (.ref f12) = true)
   (a13 : PySem.W.nsIn K mainGlobals "is_placing" = some (some (.ref f13))) (l13 : K.lookup f13 = some ⟨oc13,od13,.func (PySem.W.fnOf "is_placing" "is_placing" (defArgs sPlacing) (defBody sPlacing) (defScope sPlacing) .none kV13 dc13 pm13 an13 cd13 ct13),sl13⟩) (c13 : PySem.W.codeIn K cd13 "is_placing" = true) (k13 : PySem.W.keepIn K (.ref f13) = true)
   (a14 : PySem.W.nsIn K mainGlobals "_law_mixed" = some (some (.ref f14))) (l14 : K.lookup f14 = some ⟨oc14,od14,.func (PySem.W.fnOf "_law_mixed" "_law_mixed" (defArgs sMixed) (defBody sMixed) (defScope sMixed) .none kV14 dc14 pm14 an14 cd14 ct14),sl14⟩) (c14 : PySem.W.codeIn K cd14 "_law_mixed" = true) (k14 : PySem.W.keepIn K (.ref f14) = true)
   (a15 : PySem.W.nsIn K mainGlobals "_law_pack" = some (some (.ref f15))) (l15 : K.lookup f15 = some ⟨oc15,od15,.func (PySem.W.fnOf "_law_pack" "_law_pack" (defArgs sPack) (defBody sPack) (defScope sPack) .none kV15 dc15 pm15 an15 cd15 ct15),sl15⟩) (c15 : PySem.W.codeIn K cd15 "_law_pack" = true) (k15 : PySem.W.keepIn K (.ref f15) = true)
   (a16 : PySem.W.nsIn K mainGlobals "_law_take" = some (some (.ref f16))) (l16 : K.lookup f16 = some ⟨oc16,od16,.func (PySem.W.fnOf "_law_take" "_law_take" (defArgs sTake) (defBody sTake) (defScope sTake) .none kV16 dc16 pm16 an16 cd16 ct16),sl16⟩) (c16 : PySem.W.codeIn K cd16 "_law_take" = true) (k16 : PySem.W.keepIn K (.ref f16) = true)
   (a17 : PySem.W.nsIn K mainGlobals "_law_names" = some (some (.ref f17))) (l17 : K.lookup f17 = some ⟨oc17,od17,.func (PySem.W.fnOf "_law_names" "_law_names" (defArgs sNames) (defBody sNames) (defScope sNames) .none kV17 dc17 pm17 an17 cd17 ct17),sl17⟩) (c17 : PySem.W.codeIn K cd17 "_law_names" = true) (k17 : PySem.W.keepIn K (.ref f17) = true)
   (a18 : PySem.W.nsIn K mainGlobals "_law_house" = some (some (.ref f18))) (l18 : K.lookup f18 = some ⟨oc18,od18,.func (PySem.W.fnOf "_law_house" "_law_house" (defArgs sMkHouse) (defBody sMkHouse) (defScope sMkHouse) .none kV18 dc18 pm18 an18 cd18 ct18),sl18⟩) (c18 : PySem.W.codeIn K cd18 "_law_house" = true) (k18 : PySem.W.keepIn K (.ref f18) = true)
   (a19 : PySem.W.nsIn K mainGlobals "_law_letters" = some (some (.ref f19))) (l19 : K.lookup f19 = some ⟨oc19,od19,.func (PySem.W.fnOf "_law_letters" "_law_letters" (defArgs sMkLetters) (defBody sMkLetters) (defScope sMkLetters) .none kV19 dc19 pm19 an19 cd19 ct19),sl19⟩) (c19 : PySem.W.codeIn K cd19 "_law_letters" = true) (k19 : PySem.W.keepIn K (.ref f19) = true)
   (a20 : PySem.W.nsIn K mainGlobals "_law_ledger" = some (some (.ref f20))) (l20 : K.lookup f20 = some ⟨oc20,od20,.func (PySem.W.fnOf "_law_ledger" "_law_ledger" (defArgs sMkLedger) (defBody sMkLedger) (defScope sMkLedger) .none kV20 dc20 pm20 an20 cd20 ct20),sl20⟩) (c20 : PySem.W.codeIn K cd20 "_law_ledger" = true) (k20 : PySem.W.keepIn K (.ref f20) = true)
   (a21 : PySem.W.nsIn K mainGlobals "_law_bent" = some (some (.ref f21))) (l21 : K.lookup f21 = some ⟨oc21,od21,.func (PySem.W.fnOf "_law_bent" "_law_bent" (defArgs sBent) (defBody sBent) (defScope sBent) .none kV21 dc21 pm21 an21 cd21 ct21),sl21⟩) (c21 : PySem.W.codeIn K cd21 "_law_bent" = true) (k21 : PySem.W.keepIn K (.ref f21) = true)
   (a22 : PySem.W.nsIn K mainGlobals "_law_steps" = some (some (.ref f22))) (l22 : K.lookup f22 = some ⟨oc22,od22,.func (PySem.W.fnOf "_law_steps" "_law_steps" (defArgs sSteps) (defBody sSteps) (defScope sSteps) .none kV22 dc22 pm22 an22 cd22 ct22),sl22⟩) (c22 : PySem.W.codeIn K cd22 "_law_steps" = true) (k22 : PySem.W.keepIn K (.ref f22) = true)
   (a23 : PySem.W.nsIn K mainGlobals "_law_rows" = some (some (.ref f23))) (l23 : K.lookup f23 = some ⟨oc23,od23,.func (PySem.W.fnOf "_law_rows" "_law_rows" (defArgs sRows) (defBody sRows) (defScope sRows) .none kV23 dc23 pm23 an23 cd23 ct23),sl23⟩) (c23 : PySem.W.codeIn K cd23 "_law_rows" = true) (k23 : PySem.W.keepIn K (.ref f23) = true)
   (a24 : PySem.W.nsIn K mainGlobals "_law_sums" = some (some (.ref f24))) (l24 : K.lookup f24 = some ⟨oc24,od24,.func (PySem.W.fnOf "_law_sums" "_law_sums" (defArgs sSums) (defBody sSums) (defScope sSums) .none kV24 dc24 pm24 an24 cd24 ct24),sl24⟩) (c24 : PySem.W.codeIn K cd24 "_law_sums" = true) (k24 : PySem.W.keepIn K (.ref f24) = true)
   (a25 : PySem.W.nsIn K mainGlobals "_law_keeps" = some (some (.ref f25))) (l25 : K.lookup f25 = some ⟨oc25,od25,.func (PySem.W.fnOf "_law_keeps" "_law_keeps" (defArgs sKeeps) (defBody sKeeps) (defScope sKeeps) .none kV25 dc25 pm25 an25 cd25 ct25),sl25⟩) (c25 : PySem.W.codeIn K cd25 "_law_keeps" = true) (k25 : PySem.W.keepIn K (.ref f25) = true)
   (a26 : PySem.W.nsIn K mainGlobals "_law_moments" = some (some (.ref f26))) (l26 : K.lookup f26 = some ⟨oc26,od26,.func (PySem.W.fnOf "_law_moments" "_law_moments" (defArgs sMoments) (defBody sMoments) (defScope sMoments) .none kV26 dc26 pm26 an26 cd26 ct26),sl26⟩) (c26 : PySem.W.codeIn K cd26 "_law_moments" = true) (k26 : PySem.W.keepIn K (.ref f26) = true)
   (a27 : PySem.W.nsIn K mainGlobals "_law_told" = some (some (.ref f27))) (l27 : K.lookup f27 = some ⟨oc27,od27,.func (PySem.W.fnOf "_law_told" "_law_told" (defArgs sTold) (defBody sTold) (defScope sTold) .none kV27 dc27 pm27 an27 cd27 ct27),sl27⟩) (c27 : PySem.W.codeIn K cd27 "_law_told" = true) (k27 : PySem.W.keepIn K (.ref f27) = true)
   (a28 : PySem.W.nsIn K mainGlobals "_law_is" = some (some (.ref f28))) (l28 : K.lookup f28 = some ⟨oc28,od28,.func (PySem.W.fnOf "_law_is" "_law_is" (defArgs sIs) (defBody sIs) (defScope sIs) .none kV28 dc28 pm28 an28 cd28 ct28),sl28⟩) (c28 : PySem.W.codeIn K cd28 "_law_is" = true) (k28 : PySem.W.keepIn K (.ref f28) = true)
   (a29 : PySem.W.nsIn K mainGlobals "_law_some" = some (some (.ref f29))) (l29 : K.lookup f29 = some ⟨oc29,od29,.func (PySem.W.fnOf "_law_some" "_law_some" (defArgs sSome) (defBody sSome) (defScope sSome) .none kV29 dc29 pm29 an29 cd29 ct29),sl29⟩) (c29 : PySem.W.codeIn K cd29 "_law_some" = true) (k29 : PySem.W.keepIn K (.ref f29) = true)
   (a30 : PySem.W.nsIn K mainGlobals "law" = some (some (.ref f30))) (l30 : K.lookup f30 = some ⟨oc30,od30,.func (PySem.W.fnOf "law" "law" (defArgs sLaw) (defBody sLaw) (defScope sLaw) .none kV30 dc30 pm30 an30 cd30 ct30),sl30⟩) (c30 : PySem.W.codeIn K cd30 "law" = true) (k30 : PySem.W.keepIn K (.ref f30) = true)
   (y1 : PySem.W.nsIn K mainGlobals "LONGEST_NAME" = some (some (.int 8 t8))) (z1 : PySem.W.nsIn K mainGlobals "isinstance" = some none) (z2 : PySem.W.nsIn K mainGlobals "int" = some none) (z3 : PySem.W.nsIn K mainGlobals "bool" = some none) (z4 : PySem.W.nsIn K mainGlobals "str" = some none) (z5 : PySem.W.nsIn K mainGlobals "tuple" = some none) (z6 : PySem.W.nsIn K mainGlobals "len" = some none) (z7 : PySem.W.nsIn K mainGlobals "all" = some none) (z8 : PySem.W.nsIn K mainGlobals "zip" = some none) (z9 : PySem.W.nsIn K mainGlobals "set" = some none) (z10 : PySem.W.nsIn K mainGlobals "sorted" = some none) (z11 : PySem.W.nsIn K mainGlobals "divmod" = some none) (z12 : PySem.W.nsIn K mainGlobals "range" = some none) (z13 : PySem.W.nsIn K mainGlobals "max" = some none) (z14 : PySem.W.nsIn K mainGlobals "min" = some none) (z15 : PySem.W.nsIn K mainGlobals "abs" = some none) (z16 : PySem.W.nsIn K mainGlobals "list" = some none) (z17 : PySem.W.nsIn K mainGlobals "dict" = some none) (z18 : PySem.W.nsIn K mainGlobals "any" = some none) :
   ∃ fd : FuncData,(∀ (s : Shared) (v : Value),BindsTo s fd ⟨[v],[]⟩ [("_law_script",v)]) /\ ∀ base : Heap,K.In base -> base.Ns mainGlobals mg -> FnOk l.prog w K mg base CX0 6 fa fd ["_law_script"] (spLaw K) := by
 have e := hfa.symm.trans (PySem.W.mg_of X G a30)
 cases e
 have T : Txt mg t8 := ⟨PySem.W.mg_none_of X G z1,PySem.W.mg_none_of X G z2,PySem.W.mg_none_of X G z3,PySem.W.mg_none_of X G z4,PySem.W.mg_none_of X G z5,PySem.W.mg_none_of X G z6,PySem.W.mg_none_of X G z7,PySem.W.mg_none_of X G z8,PySem.W.mg_none_of X G z9,PySem.W.mg_none_of X G z10,PySem.W.mg_none_of X G z11,PySem.W.mg_none_of X G z12,PySem.W.mg_none_of X G z13,PySem.W.mg_none_of X G z14,PySem.W.mg_none_of X G z15,PySem.W.mg_none_of X G z16,PySem.W.mg_none_of X G z17,PySem.W.mg_none_of X G z18,PySem.W.mg_of X G y1⟩
 have F1 := fun_mk (st := sWhole) l1 c1 k1
 have b1 := F1.binds (ps := ["thing"]) fun _ _ _ _ _ _ us hl => match us,hl with | [_],_ => rfl
 have F2 := fun_mk (st := sName) l2 c2 k2
 have b2 := F2.binds (ps := ["thing"]) fun _ _ _ _ _ _ us hl => match us,hl with | [_],_ => rfl
 have F3 := fun_mk (st := sParts) l3 c3 k3
 have b3 := F3.binds (ps := ["thing","many"]) fun _ _ _ _ _ _ us hl => match us,hl with | [_,_],_ => rfl
 have F4 := fun_mk (st := sNamed) l4 c4 k4
 have b4 := F4.binds (ps := ["thing"]) fun _ _ _ _ _ _ us hl => match us,hl with | [_],_ => rfl
 have F5 := fun_mk (st := sRowsIn) l5 c5 k5
 have b5 := F5.binds (ps := ["house"]) fun _ _ _ _ _ _ us hl => match us,hl with | [_],_ => rfl
 have F6 := fun_mk (st := sNeigh) l6 c6 k6
 have b6 := F6.binds (ps := ["house"]) fun _ _ _ _ _ _ us hl => match us,hl with | [_],_ => rfl
 have F7 := fun_mk (st := sRowNames) l7 c7 k7
 have b7 := F7.binds (ps := ["houses"]) fun _ _ _ _ _ _ us hl => match us,hl with | [_],_ => rfl
 have F8 := fun_mk (st := sRowsOf) l8 c8 k8
 have b8 := F8.binds (ps := ["ledger"]) fun _ _ _ _ _ _ us hl => match us,hl with | [_],_ => rfl
 have F9 := fun_mk (st := sEach) l9 c9 k9
 have b9 := F9.binds (ps := ["ledger","thing"]) fun _ _ _ _ _ _ us hl => match us,hl with | [_,_],_ => rfl
 have F10 := fun_mk (st := sKDrift) l10 c10 k10
 have b10 := F10.binds (ps := ["run","drift","moments"]) fun _ _ _ _ _ _ us hl => match us,hl with | [_,_,_],_ => rfl
 have F11 := fun_mk (st := sKHouse) l11 c11 k11
 have b11 := F11.binds (ps := ["house","moments"]) fun _ _ _ _ _ _ us hl => match us,hl with | [_,_],_ => rfl
 have F12 := fun_mk (st := sKLetter) l12 c12 k12
 have b12 := F12.binds (ps := ["letter","moments"]) fun _ _ _ _ _ _ us hl => match us,hl with | [_,_],_ => rfl
 have F13 := fun_mk (st := sPlacing) l13 c13 k13
 have b13 := F13.binds (ps := ["ledger","thing"]) fun _ _ _ _ _ _ us hl => match us,hl with | [_,_],_ => rfl
 have F14 := fun_mk (st := sMixed) l14 c14 k14
 have b14 := F14.binds (ps := ["_law_cell"]) fun _ _ _ _ _ _ us hl => match us,hl with | [_],_ => rfl
 have F15 := fun_mk (st := sPack) l15 c15 k15
 have b15 := F15.binds (ps := ["_law_script","_law_k"]) fun _ _ _ _ _ _ us hl => match us,hl with | [_,_],_ => rfl
 have F16 := fun_mk (st := sTake) l16 c16 k16
 have b16 := F16.binds (ps := ["_law_pack_here","_law_size"]) fun _ _ _ _ _ _ us hl => match us,hl with | [_,_],_ => rfl
 have F17 := fun_mk (st := sNames) l17 c17 k17
 have b17 := F17.binds (ps := ["_law_pack_here","_law_amount"]) fun _ _ _ _ _ _ us hl => match us,hl with | [_,_],_ => rfl
 have F18 := fun_mk (st := sMkHouse) l18 c18 k18
 have b18 := F18.binds (ps := ["_law_pack_here","_law_name","_law_names_here","_law_room"]) fun _ _ _ _ _ _ us hl => match us,hl with | [_,_,_,_],_ => rfl
 have F19 := fun_mk (st := sMkLetters) l19 c19 k19
 have b19 := F19.binds (ps := ["_law_pack_here","_law_houses","_law_hidden"]) fun _ _ _ _ _ _ us hl => match us,hl with | [_,_,_],_ => rfl
 have F20 := fun_mk (st := sMkLedger) l20 c20 k20
 have b20 := F20.binds (ps := ["_law_script","_law_k"]) fun _ _ _ _ _ _ us hl => match us,hl with | [_,_],_ => rfl
 have F21 := fun_mk (st := sBent) l21 c21 k21
 have b21 := F21.binds (ps := ["_law_pack_here","_law_ledger_here"]) fun _ _ _ _ _ _ us hl => match us,hl with | [_,_],_ => rfl
 have F22 := fun_mk (st := sSteps) l22 c22 k22
 have b22 := F22.binds (ps := ["_law_ledger_here"]) fun _ _ _ _ _ _ us hl => match us,hl with | [_],_ => rfl
 have F23 := fun_mk (st := sRows) l23 c23 k23
 have b23 := F23.binds (ps := ["_law_ledger_here"]) fun _ _ _ _ _ _ us hl => match us,hl with | [_],_ => rfl
 have F24 := fun_mk (st := sSums) l24 c24 k24
 have b24 := F24.binds (ps := ["_law_steps_here","_law_points"]) fun _ _ _ _ _ _ us hl => match us,hl with | [_,_],_ => rfl
 have F25 := fun_mk (st := sKeeps) l25 c25 k25
 have b25 := F25.binds (ps := ["_law_ledger_here","_law_instants"]) fun _ _ _ _ _ _ us hl => match us,hl with | [_,_],_ => rfl
 have F26 := fun_mk (st := sMoments) l26 c26 k26
 have b26 := F26.binds (ps := ["_law_ledger_here","_law_side"]) fun _ _ _ _ _ _ us hl => match us,hl with | [_,_],_ => rfl
 have F27 := fun_mk (st := sTold) l27 c27 k27
 have b27 := F27.binds (ps := ["_law_instants"]) fun _ _ _ _ _ _ us hl => match us,hl with | [_],_ => rfl
 have F28 := fun_mk (st := sIs) l28 c28 k28
 have b28 := F28.binds (ps := ["_law_found","_law_due"]) fun _ _ _ _ _ _ us hl => match us,hl with | [_,_],_ => rfl
 have F29 := fun_mk (st := sSome) l29 c29 k29
 have b29 := F29.binds (ps := ["_law_pack_here","_law_ledger_here","_law_least","_law_greatest"]) fun _ _ _ _ _ _ us hl => match us,hl with | [_,_,_,_],_ => rfl
 have F30 := fun_mk (st := sLaw) l30 c30 k30
 have b30 := F30.binds (ps := ["_law_script"]) fun _ _ _ _ _ _ us hl => match us,hl with | [_],_ => rfl
 refine ⟨PySem.W.fnOf "law" "law" (defArgs sLaw) (defBody sLaw) (defScope sLaw) .none kV30 dc30 pm30 an30 cd30 ct30,fun s v => .of_eq rfl,fun base _ _ => ?_⟩
 have G1 : FnOk l.prog w K mg base CX0 1 f1 _ ["thing"] (spWhole K) := ok_whole F1 T
 have G2 : FnOk l.prog w K mg base CX0 1 f2 _ ["thing"] (spName K) := ok_name F2 T
 have G3 : FnOk l.prog w K mg base CX0 1 f3 _ ["thing","many"] spParts := ok_parts F3 T
 have G4 : FnOk l.prog w K mg base CX0 2 f4 _ ["thing"] (spD namedD) := ok_named F4 G3 (PySem.W.mg_of X G a3) k3 b3 G2 (PySem.W.mg_of X G a2) k2 b2 G1 (PySem.W.mg_of X G a1) k1 b1
 have G5 : FnOk l.prog w K mg base CX0 1 f5 _ ["house"] spRowsIn := ok_rowsin F5
 have G6 : FnOk l.prog w K mg base CX0 2 f6 _ ["house"] spNeigh := ok_neigh F6 T G5 (PySem.W.mg_of X G a5) k5 b5
 have G7 : FnOk l.prog w K mg base CX0 2 f7 _ ["houses"] spRowNames := ok_rownames F7 G5 (PySem.W.mg_of X G a5) k5 b5
 have G8 : FnOk l.prog w K mg base CX0 3 f8 _ ["ledger"] spRowsOf := ok_rowsof F8 T G7 (PySem.W.mg_of X G a7) k7 b7
 have G9 : FnOk l.prog w K mg base CX0 4 f9 _ ["ledger","thing"] spEach := ok_each F9 T (G4.mono (by decide)) (PySem.W.mg_of X G a4) k4 b4 G8 (PySem.W.mg_of X G a8) k8 b8
 have G10 : FnOk l.prog w K mg base CX0 1 f10 _ ["run","drift","moments"] spKDrift := ok_kdrift F10 T
 have G11 : FnOk l.prog w K mg base CX0 3 f11 _ ["house","moments"] spKHouse := ok_khouse F11 T (G5.mono (by decide)) (PySem.W.mg_of X G a5) k5 b5 G6 (PySem.W.mg_of X G a6) k6 b6 (G10.mono (by decide)) (PySem.W.mg_of X G a10) k10 b10
 have G12 : FnOk l.prog w K mg base CX0 1 f12 _ ["letter","moments"] spKLetter := ok_kletter F12
 have G13 : FnOk l.prog w K mg base CX0 5 f13 _ ["ledger","thing"] spPlacing := ok_placing F13 T G9 (PySem.W.mg_of X G a9) k9 b9 (G11.mono (by decide)) (PySem.W.mg_of X G a11) k11 b11 (G12.mono (by decide)) (PySem.W.mg_of X G a12) k12 b12
 have G14 : FnOk l.prog w K mg base CX0 1 f14 _ ["_law_cell"] spMixed := ok_mixed F14
 have G15 : FnOk l.prog w K mg base CX0 2 f15 _ ["_law_script","_law_k"] (spPack K) := ok_pack F15 T G14 (PySem.W.mg_of X G a14) k14 b14
 have G16 : FnOk l.prog w K mg base CX0 1 f16 _ ["_law_pack_here","_law_size"] spTake := ok_take F16 T
 have G17 : FnOk l.prog w K mg base CX0 2 f17 _ ["_law_pack_here","_law_amount"] spNames := ok_names F17 T G16 (PySem.W.mg_of X G a16) k16 b16
 have G18 : FnOk l.prog w K mg base CX0 2 f18 _ ["_law_pack_here","_law_name","_law_names_here","_law_room"] spMkHouse := ok_mkhouse F18 T G16 (PySem.W.mg_of X G a16) k16 b16
 have G19 : FnOk l.prog w K mg base CX0 2 f19 _ ["_law_pack_here","_law_houses","_law_hidden"] spMkLetters := ok_mkletters F19 T G16 (PySem.W.mg_of X G a16) k16 b16
 have G20 : FnOk l.prog w K mg base CX0 3 f20 _ ["_law_script","_law_k"] (spMkLedger K) := ok_mkledger F20 T G15 (PySem.W.mg_of X G a15) k15 b15 G17 (PySem.W.mg_of X G a17) k17 b17 (G16.mono (by decide)) (PySem.W.mg_of X G a16) k16 b16 G18 (PySem.W.mg_of X G a18) k18 b18 G19 (PySem.W.mg_of X G a19) k19 b19
 have G21 : FnOk l.prog w K mg base CX0 2 f21 _ ["_law_pack_here","_law_ledger_here"] spBent := ok_bent F21 T G16 (PySem.W.mg_of X G a16) k16 b16
 have G22 : FnOk l.prog w K mg base CX0 1 f22 _ ["_law_ledger_here"] spSteps := ok_steps F22 T
 have G23 : FnOk l.prog w K mg base CX0 1 f23 _ ["_law_ledger_here"] spRows := ok_rows F23 T
 have G24 : FnOk l.prog w K mg base CX0 1 f24 _ ["_law_steps_here","_law_points"] spSums := ok_sums F24 T
 have G25 : FnOk l.prog w K mg base CX0 1 f25 _ ["_law_ledger_here","_law_instants"] spKeeps := ok_keeps F25 T
 have G26 : FnOk l.prog w K mg base CX0 2 f26 _ ["_law_ledger_here","_law_side"] spMoments := ok_moments F26 T G23 (PySem.W.mg_of X G a23) k23 b23 G22 (PySem.W.mg_of X G a22) k22 b22 G24 (PySem.W.mg_of X G a24) k24 b24
 have G27 : FnOk l.prog w K mg base CX0 1 f27 _ ["_law_instants"] spTold := ok_told F27 T
 have G28 : FnOk l.prog w K mg base CX0 1 f28 _ ["_law_found","_law_due"] spIs := ok_is F28 T
 have G29 : FnOk l.prog w K mg base CX0 2 f29 _ ["_law_pack_here","_law_ledger_here","_law_least","_law_greatest"] spSome := ok_some F29 T G16 (PySem.W.mg_of X G a16) k16 b16
 exact ok_law F30 T (G20.mono (by decide)) (PySem.W.mg_of X G a20) k20 b20 (G15.mono (by decide)) (PySem.W.mg_of X G a15) k15 b15 (G16.mono (by decide)) (PySem.W.mg_of X G a16) k16 b16 (G21.mono (by decide)) (PySem.W.mg_of X G a21) k21 b21 (G26.mono (by decide)) (PySem.W.mg_of X G a26) k26 b26 (G23.mono (by decide)) (PySem.W.mg_of X G a23) k23 b23 G13 (PySem.W.mg_of X G a13) k13 b13 (G27.mono (by decide)) (PySem.W.mg_of X G a27) k27 b27 (G28.mono (by decide)) (PySem.W.mg_of X G a28) k28 b28 (G29.mono (by decide)) (PySem.W.mg_of X G a29) k29 b29 (G25.mono (by decide)) (PySem.W.mg_of X G a25) k25 b25
theorem walk {l : PySem.W.OpenLaw} {q : Program} {loose : List Str} {XP : (Str -> Option Value) -> Heap -> Prop} {YP : World -> Heap -> Prop} {d : DefRec} {K : Params -> PySem.W.Frag} (hn : l.most = some 63) (hdf : d.params.defaults = [])
   (hY : ∀ (w : World) (h : Heap),YP w h -> (K w.params).In h)
   (F : ∀ (w : World) (mg : Str -> Option Value) (fa : Addr) (h : Heap),(K w.params).In h -> h.Ns mainGlobals mg -> mg d.name = some (.ref fa) ->
     ∃ fd : FuncData,(∀ (s : Shared) (u : Value),BindsTo s fd ⟨[u],[]⟩ [("_law_script",u)]) /\ ∀ base : Heap,(K w.params).In base -> base.Ns mainGlobals mg -> FnOk l.prog w (K w.params) mg base CX0 6 fa fd ["_law_script"] (spLaw (K w.params))) :
   PySem.W.WalkO q loose XP YP l.row.toRowW d [] (fun f vs => PySem.call f vs) :=
 walk_bits (n := 63) (k := 6) (x := "_law_script") (CX := fun _ => CX0) (sp := fun w => spLaw (K w.params)) hn (by decide) hdf ⟨rfl,by decide,by decide⟩ hY F (fun _ _ a ns hl hb _ hS => ⟨a,ns,rfl,hS,hl,hb,fun _ => rfl⟩) fun _ _ _ _ _ z => z
end K04
def PySem.W.Fast.tw7472296502015961724 : Unit := ()
def PySem.W.Fast.tw7808465715982423857 : Unit := ()
def PySem.W.Fast.tw7397147691883276545 : Unit := ()
def PySem.W.Fast.tw10121561656537468764 : Unit := ()
def PySem.W.Fast.tw16724980967328822513 : Unit := ()
def PySem.W.Fast.tw9202285248412056830 : Unit := ()
def PySem.W.Fast.tw14960993525624585548 : Unit := ()
def PySem.W.Fast.tw16505676803628434083 : Unit := ()
def PySem.W.Fast.tw3341287703307699389 : Unit := ()
open PySem PySem.W PyProof.Rows
set_option maxRecDepth 100000 in
set_option maxHeartbeats 0 in
theorem PySem.Challenge.cw_skewbooks_k04_placings_looked_at_holds : PySem.Challenge.rw_skewbooks_k04_placings_looked_at.Holds := by
 w_on; o_law; k_head; (case hw => w_witness2)
 k_fill
 refine K04.walk (l := PySem.Challenge.rw_skewbooks_k04_placings_looked_at) rfl rfl (fun w h Y => PySem.W.kIn_of Y) ?F
 case F =>
   intro w mg fa h KX G hmg
   refine' K04.all_mk KX G hmg ?a1 ?l1 ?c1 ?k1 ?a2 ?l2 ?c2 ?k2 ?a3 ?l3 ?c3 ?k3 ?a4 ?l4 ?c4 ?k4 ?a5 ?l5 ?c5 ?k5 ?a6 ?l6 ?c6 ?k6 ?a7 ?l7 ?c7 ?k7 ?a8 ?l8 ?c8 ?k8 ?a9 ?l9 ?c9 ?k9 ?a10 ?l10 ?c10 ?k10 ?a11 ?l11 ?c11 ?k11 ?a12 ?l12 ?c12 ?k12 ?a13 ?l13 ?c13 ?k13 ?a14 ?l14 ?c14 ?k14 ?a15 ?l15 ?c15 ?k15 ?a16 ?l16 ?c16 ?k16 ?a17 ?l17 ?c17 ?k17 ?a18 ?l18 ?c18 ?k18 ?a19 ?l19 ?c19 ?k19 ?a20 ?l20 ?c20 ?k20 ?a21 ?l21 ?c21 ?k21 ?a22 ?l22 ?c22 ?k22 ?a23 ?l23 ?c23 ?k23 ?a24 ?l24 ?c24 ?k24 ?a25 ?l25 ?c25 ?k25 ?a26 ?l26 ?c26 ?k26 ?a27 ?l27 ?c27 ?k27 ?a28 ?l28 ?c28 ?k28 ?a29 ?l29 ?c29 ?k29 ?a30 ?l30 ?c30 ?k30 ?y1 ?z1 ?z2 ?z3 ?z4 ?z5 ?z6 ?z7 ?z8 ?z9 ?z10 ?z11 ?z12 ?z13 ?z14 ?z15 ?z16 ?z17 ?z18
   (case a1 => k_is)
   (case l1 => k_is)
   (case c1 => k_is)
   (case k1 => k_is)
   (case a2 => k_is)
   (case l2 => k_is)
   (case c2 => k_is)
   (case k2 => k_is)
   (case a3 => k_is)
   (case l3 => k_is)
   (case c3 => k_is)
   (case k3 => k_is)
   (case a4 => k_is)
   (case l4 => k_is)
   (case c4 => k_is)
   (case k4 => k_is)
   (case a5 => k_is)
   (case l5 => k_is)
   (case c5 => k_is)
   (case k5 => k_is)
   (case a6 => k_is)
   (case l6 => k_is)
   (case c6 => k_is)
   (case k6 => k_is)
   (case a7 => k_is)
   (case l7 => k_is)
   (case c7 => k_is)
   (case k7 => k_is)
   (case a8 => k_is)
   (case l8 => k_is)
   (case c8 => k_is)
   (case k8 => k_is)
   (case a9 => k_is)
   (case l9 => k_is)
   (case c9 => k_is)
   (case k9 => k_is)
   (case a10 => k_is)
   (case l10 => k_is)
   (case c10 => k_is)
   (case k10 => k_is)
   (case a11 => k_is)
   (case l11 => k_is)
   (case c11 => k_is)
   (case k11 => k_is)
   (case a12 => k_is)
   (case l12 => k_is)
   (case c12 => k_is)
   (case k12 => k_is)
   (case a13 => k_is)
   (case l13 => k_is)
   (case c13 => k_is)
   (case k13 => k_is)
   (case a14 => k_is)
   (case l14 => k_is)
   (case c14 => k_is)
   (case k14 => k_is)
   (case a15 => k_is)
   (case l15 => k_is)
   (case c15 => k_is)
   (case k15 => k_is)
   (case a16 => k_is)
   (case l16 => k_is)
   (case c16 => k_is)
   (case k16 => k_is)
   (case a17 => k_is)
   (case l17 => k_is)
   (case c17 => k_is)
   (case k17 => k_is)
   (case a18 => k_is)
   (case l18 => k_is)
   (case c18 => k_is)
   (case k18 => k_is)
   (case a19 => k_is)
   (case l19 => k_is)
   (case c19 => k_is)
   (case k19 => k_is)
   (case a20 => k_is)
   (case l20 => k_is)
   (case c20 => k_is)
   (case k20 => k_is)
   (case a21 => k_is)
   (case l21 => k_is)
   (case c21 => k_is)
   (case k21 => k_is)
   (case a22 => k_is)
   (case l22 => k_is)
   (case c22 => k_is)
   (case k22 => k_is)
   (case a23 => k_is)
   (case l23 => k_is)
   (case c23 => k_is)
   (case k23 => k_is)
   (case a24 => k_is)
   (case l24 => k_is)
   (case c24 => k_is)
   (case k24 => k_is)
   (case a25 => k_is)
   (case l25 => k_is)
   (case c25 => k_is)
   (case k25 => k_is)
   (case a26 => k_is)
   (case l26 => k_is)
   (case c26 => k_is)
   (case k26 => k_is)
   (case a27 => k_is)
   (case l27 => k_is)
   (case c27 => k_is)
   (case k27 => k_is)
   (case a28 => k_is)
   (case l28 => k_is)
   (case c28 => k_is)
   (case k28 => k_is)
   (case a29 => k_is)
   (case l29 => k_is)
   (case c29 => k_is)
   (case k29 => k_is)
   (case a30 => k_is)
   (case l30 => k_is)
   (case c30 => k_is)
   (case k30 => k_is)
   (case y1 => k_is)
   (case z1 => k_is)
   (case z2 => k_is)
   (case z3 => k_is)
   (case z4 => k_is)
   (case z5 => k_is)
   (case z6 => k_is)
   (case z7 => k_is)
   (case z8 => k_is)
   (case z9 => k_is)
   (case z10 => k_is)
   (case z11 => k_is)
   (case z12 => k_is)
   (case z13 => k_is)
   (case z14 => k_is)
   (case z15 => k_is)
   (case z16 => k_is)
   (case z17 => k_is)
   (case z18 => k_is)
