import PyProof.Rows.All
import Wide.All
import OpenK.AllK
import Wide.FinOn
import Lean
import PyProof.EqAt
import PyProof.EqKinds
import PyProof.TupleCall
import PySem.Challenge.RW_skewbooks_k02_ledgers_of_any_things
set_option Elab.async false
set_option linter.all false
set_option maxRecDepth 100000
namespace L2
open PySem PySem.Spec PyProof.Rows
noncomputable abbrev Key := Sum Int Str
noncomputable def keyIs : Key → Value → Bool
  | .inl k, v => Value.isInt k v
  | .inr x, v => Value.isStrOf x v
noncomputable def keyH (w : World) : Key → Int
  | .inl k => hashInt k
  | .inr x => hashStr w x
theorem keyIs_shape : ∀ {k : Key} {v : Value}, keyIs k v = true → (∃ i t, k = Sum.inl i ∧ v = Value.int i t) ∨ (∃ x t, k = Sum.inr x ∧ v = Value.str x t)
  | .inl i, v, h => by
    obtain ⟨t, e⟩ := Value.isInt_shape (k := i) (v := v) h
    exact .inl ⟨i, t, rfl, e⟩
  | .inr x, v, h => by
    obtain ⟨t, e⟩ := Value.isStrOf_shape (x := x) (v := v) h
    exact .inr ⟨x, t, rfl, e⟩
theorem keyIs_int (i : Int) (t : Tok) : keyIs (.inl i) (.int i t) = true := by simp [keyIs, Value.isInt]
theorem keyIs_str (x : Str) (t : Tok) : keyIs (.inr x) (.str x t) = true := by simp [keyIs, Value.isStrOf]
theorem key_ll (a b : Int) : decide ((Sum.inl a : Key) = Sum.inl b) = (a == b) := by
  by_cases e : a = b
  · subst e; simp
  · have h : ¬ (Sum.inl a : Key) = Sum.inl b := fun q => e (Sum.inl.inj q)
    rw [decide_eq_false h]
    exact (beq_eq_false_iff_ne.mpr e).symm
theorem key_rr (a b : Str) : decide ((Sum.inr a : Key) = Sum.inr b) = decide (a = b) := by
  by_cases e : a = b
  · subst e; simp
  · have h : ¬ (Sum.inr a : Key) = Sum.inr b := fun q => e (Sum.inr.inj q)
    rw [decide_eq_false h, decide_eq_false e]
theorem key_lr (a : Int) (b : Str) : decide ((Sum.inl a : Key) = Sum.inr b) = false := decide_eq_false (fun q => nomatch q)
theorem key_rl (a : Str) (b : Int) : decide ((Sum.inr a : Key) = Sum.inl b) = false := decide_eq_false (fun q => nomatch q)
noncomputable def mixKind (prog : Program) (w : World) : PySem.KeyKind prog w Key where
  is := keyIs
  hash := keyH w
  inj := fun v a b ha hb => by
    rcases keyIs_shape ha with ⟨i, t, rfl, rfl⟩ | ⟨x, t, rfl, rfl⟩
    · rcases keyIs_shape hb with ⟨j, u, rfl, e⟩ | ⟨y, u, rfl, e⟩
      · injection e with e1 _; rw [e1]
      · exact nomatch e
    · rcases keyIs_shape hb with ⟨j, u, rfl, e⟩ | ⟨y, u, rfl, e⟩
      · exact nomatch e
      · injection e with e1 _; rw [e1]
  byValue := fun k v h => by
    rcases keyIs_shape h with ⟨i, t, rfl, rfl⟩ | ⟨x, t, rfl, rfl⟩ <;> rfl
  pyHash := fun hv h => by
    rcases keyIs_shape hv with ⟨i, t, rfl, rfl⟩ | ⟨x, t, rfl, rfl⟩
    · exact wpAny_pyHash_int h
    · exact wpAny_pyHash_str h
  eqBool := fun hu hv h => by
    rcases keyIs_shape hu with ⟨i, t, rfl, rfl⟩ | ⟨x, t, rfl, rfl⟩
    · rcases keyIs_shape hv with ⟨j, u, rfl, rfl⟩ | ⟨y, u, rfl, rfl⟩
      · rw [key_ll] at h; exact wpAny_eqBool_int h
      · rw [key_lr] at h; exact SeqAt.EqAt.int_str i t y u _ _ _ _ h
    · rcases keyIs_shape hv with ⟨j, u, rfl, rfl⟩ | ⟨y, u, rfl, rfl⟩
      · rw [key_rl] at h; exact SeqAt.EqAt.str_int x t j u _ _ _ _ h
      · rw [key_rr] at h; exact wpAny_eqBool_str h
  «strs» := fun k x t v h => by
    rcases keyIs_shape h with ⟨i, u, rfl, e⟩ | ⟨y, u, rfl, e⟩
    · exact nomatch e
    · injection e with e1 _
      subst e1
      cases v <;> rfl
theorem mixKind_int (prog : Program) (w : World) (i : Int) (t : Tok) : (mixKind prog w).is (.inl i) (.int i t) = true := keyIs_int i t
theorem mixKind_str (prog : Program) (w : World) (x : Str) (t : Tok) : (mixKind prog w).is (.inr x) (.str x t) = true := keyIs_str x t
end L2
namespace L2
open PySem PySem.Spec PyProof.Rows
inductive V where
  | non | bl (b : Bool) | int (i : Int) | str (x : Str) | byt (b : Array UInt8) | flt (b : UInt64) | ref (a : Addr) | ty (n : String)
  deriving DecidableEq
noncomputable def RelV : V → Value → Prop
  | .non, u => u = Value.none
  | .bl b, u => u = Value.bool b
  | .int i, u => ∃ t, u = Value.int i t
  | .str x, u => ∃ t, u = Value.str x t
  | .byt b, u => ∃ t, u = Value.bytes b t
  | .flt b, u => ∃ t, u = Value.float b t
  | .ref a, u => u = Value.ref a
  | .ty n, u => u = Value.type n
noncomputable abbrev Vals : List V → List Value → Prop := Paired RelV
theorem Vals.length {xs : List V} {us : List Value} (r : Vals xs us) : xs.length = us.length := Paired.length r
theorem Vals.get : ∀ {xs : List V} {us : List Value} {i : Nat} {x : V}, Vals xs us → xs[i]? = some x → ∃ u, us[i]? = some u ∧ RelV x u
  | _, _, _, _, .nil, e => by simp at e
  | _, _, 0, _, .cons r _, e => by simp at e; subst e; exact ⟨_, rfl, r⟩
  | _, _, i + 1, x, .cons _ t, e => by
    obtain ⟨u, h1, h2⟩ := Vals.get (i := i) (x := x) t (by simpa using e)
    exact ⟨u, by simpa using h1, h2⟩
theorem Vals.set {x : V} {u : Value} (r : RelV x u) : ∀ {xs : List V} {us : List Value} (i : Nat), Vals xs us → Vals (xs.set i x) (us.set i u)
  | _, _, _, .nil => .nil
  | _, _, 0, .cons _ t => .cons r t
  | _, _, i + 1, .cons q t => .cons q (Vals.set r i t)
theorem Vals.append : ∀ {xs ys : List V} {us ws : List Value}, Vals xs us → Vals ys ws → Vals (xs ++ ys) (us ++ ws)
  | _, _, _, _, .nil, s => s
  | _, _, _, _, .cons r t, s => .cons r (Vals.append t s)
theorem Vals.take : ∀ {xs : List V} {us : List Value} (n : Nat), Vals xs us → Vals (xs.take n) (us.take n)
  | _, _, 0, _ => .nil
  | _, _, _ + 1, .nil => .nil
  | _, _, n + 1, .cons r t => .cons r (Vals.take n t)
theorem Vals.drop : ∀ {xs : List V} {us : List Value} (n : Nat), Vals xs us → Vals (xs.drop n) (us.drop n)
  | _, _, 0, r => r
  | _, _, _ + 1, .nil => .nil
  | _, _, n + 1, .cons _ t => Vals.drop n t
noncomputable def RelO : Option V → Option Value → Prop
  | some v, some u => RelV v u
  | none, none => True
  | _, _ => False
noncomputable def KV {κ : Type} : List (κ × V) → List (κ × Value) → Prop := Paired fun (p : κ × V) (q : κ × Value) => p.1 = q.1 ∧ RelV p.2 q.2
noncomputable def kV : Key → V
  | .inl i => .int i
  | .inr x => .str x
inductive HO where
  /-- a list -/
  | lst (xs : List V)
  /-- a tuple (never changes) -/
  | tup (xs : List V)
  /-- a dict whose keys are ints and texts; one whose keys are tuples of ints and texts (the empty one is both) -/
  | dK (kvs : List (Key × V)) | dT (kvs : List (List Key × V))
  /-- a set of ints: its members, its size -/
  | set (S : Int → Bool) (n : Nat)
  /-- an instance of the class at C, its dict at dx, its attributes -/
  | ins (C dx : Addr) (fs : List (Str × V))
  /-- the dict of the instance at x -/
  | own (x : Addr)
  /-- the dict of an exception -/
  | xd (fs : List (Str × V))
  /-- a bound method, f of x -/
  | met (f x : Addr)
  /-- a range object lo, lo + 1, .. below hi -/
  | rng (lo hi : Int)
  /-- a thing that is known to the object (the script; a dict while a loop walks it): read, never written while it is so -/
  | frz (o : Obj) (u : HO)
  /-- a code object's table -/
  | tbl (ps : Array Value)
  /-- any other thing, by what is true of its one object (a def of one's own: SetO a S n := HO.ext fun h => ..) -/
  | ext (φ : Heap → Prop)
noncomputable abbrev Hp := Addr → Option HO
noncomputable def upd (H : Hp) (a : Addr) (o : HO) : Hp := fun b => if b = a then some o else H b
theorem upd_same {H : Hp} {a : Addr} {o : HO} : upd H a o a = some o := by unfold upd; rw [if_pos rfl]
theorem upd_ne {H : Hp} {a b : Addr} {o : HO} (h : b ≠ a) : upd H a o b = H b := by unfold upd; rw [if_neg h]
theorem ne_of {H : Hp} {a b : Addr} {o u : HO} (h : H a = some o) (h' : H b = some u) (d : o ≠ u) : a ≠ b := by
  intro e; subst e; rw [h] at h'; exact d (Option.some.inj h')
theorem ne_of_none {H : Hp} {a b : Addr} {o : HO} (h : H a = some o) (h' : H b = none) : a ≠ b := by
  intro e; subst e; rw [h] at h'; cases h'
section
variable (P : Program) (w : World)
noncomputable def ObjOk (H : Hp) (h : Heap) (a : Addr) : HO → Prop
  | .lst xs => xs.length ≤ sizeLine ∧ ∃ (its : List Value) (n : Nat), Vals xs its ∧ h.get? a = some { cls := .type "list", data := .seq its.toArray n }
  | .tup xs => xs.length ≤ sizeLine ∧ ∃ its : List Value, Vals xs its ∧ IsTup h a its.toArray
  | .dK kvs => kvs.length ≤ sizeLine ∧ (a == sysModules) = false ∧ ∃ vs, KV kvs vs ∧ h.DictOf (mixKind P w) a vs
  | .dT kvs => kvs.length ≤ sizeLine ∧ (a == sysModules) = false ∧ ∃ xs : List (List Key × Addr × Value),
      Paired (fun (p : List Key × V) (q : List Key × Addr × Value) => p.1 = q.1 ∧ H q.2.1 = some (.tup (p.1.map kV)) ∧ RelV p.2 q.2.2) kvs xs ∧
      ∃ o es ep, h.get? a = some o ∧ o.ExactDict ∧ o.data = .dict es ep ∧ es.toList = xs.map (entryOfKey (tupleKind (mixKind P w))) ∧ (xs.map (·.1)).Nodup
  | .set S n => h.SetOf (intKind P w) a S n
  | .ins C dx fs => H dx = some (.own a) ∧ fs.length ≤ 1000 ∧ dx ≠ a ∧ h.get? a = some (PySem.W.instObj C dx) ∧
      ∃ mA, h.Ns1 dx mA ∧ (∀ f, RelO (fs.lookup f) (mA f)) ∧ PySem.Within mA (fs.map (·.1))
  | .own _ => ∃ o, h.get? a = some o
  | .xd fs => ∃ mA, h.Ns1 a mA ∧ ∀ f, RelO (fs.lookup f) (mA f)
  | .rng lo hi => ∃ t u v, h.get? a = some { cls := .type "range", data := .fields #[.int lo t, .int hi u, .int 1 v] }
  | .frz o u => h.get? a = some o ∧ ObjOk H h a u
  | .tbl ps => h.get? a = some { cls := .none, data := .fields ps }
  | .met f x => h.get? a = some (PySem.W.methodObj (.ref f) (.ref x))
  | .ext φ => φ h ∧ (∃ o, h.get? a = some o) ∧ ∀ h1 h2 : Heap, φ h1 → (∀ o, h1.get? a = some o → h2.get? a = some o) → φ h2
noncomputable def HOk (H : Hp) (h : Heap) : Prop := ∀ a o, H a = some o → ObjOk P w H h a o
end
section
variable {P : Program} {w : World} {H H' : Hp} {h h' : Heap} {a : Addr} {o : HO}
theorem ObjOk.lt (x : ObjOk P w H h a o) : a < h.objs.size := by
  cases o with
  | lst xs => obtain ⟨_, _, _, _, e⟩ := x; exact Heap.lt_size e
  | tup xs => obtain ⟨_, _, _, p⟩ := x; exact p.lt
  | dK kvs => obtain ⟨_, _, _, _, o, _, _, e, _⟩ := x; exact Heap.lt_size e
  | dT kvs => obtain ⟨_, _, _, _, o, _, _, e, _⟩ := x; exact Heap.lt_size e
  | set S n => obtain ⟨o, _, _, _, e, _⟩ := x; exact Heap.lt_size e
  | ins C dx fs => obtain ⟨_, _, _, e, _⟩ := x; exact Heap.lt_size e
  | own y => obtain ⟨_, e⟩ := x; exact Heap.lt_size e
  | xd fs => obtain ⟨_, ⟨_, _, _, e, _⟩, _⟩ := x; exact Heap.lt_size e
  | rng lo hi => obtain ⟨_, _, _, e⟩ := x; exact Heap.lt_size e
  | frz ob u => obtain ⟨e, _⟩ := x; exact Heap.lt_size e
  | tbl ps => exact Heap.lt_size (show h.get? a = some _ from x)
  | met f y => exact Heap.lt_size (show h.get? a = some _ from x)
  | ext φ => obtain ⟨_, ⟨_, e⟩, _⟩ := x; exact Heap.lt_size e
theorem Paired.mapP {α β : Type} {F G : α → β → Prop} : ∀ {l₁ : List α} {l₂ : List β}, Paired F l₁ l₂ → (∀ a b, F a b → G a b) → Paired G l₁ l₂
  | _, _, .nil, _ => .nil
  | _, _, .cons r t, f => .cons (f _ _ r) (Paired.mapP t f)
theorem ObjOk.stay (x : ObjOk P w H h a o) (k : ∀ b u, (b = a ∨ H b = some (.own a)) → h.get? b = some u → h'.get? b = some u)
    (ho : ∀ b, H b = some (.own a) → H' b = some (.own a)) (ht : ∀ b xs, H b = some (.tup xs) → H' b = some (.tup xs)) : ObjOk P w H' h' a o := by
  induction o with
  | lst xs => obtain ⟨z, its, n, r, e⟩ := x; exact ⟨z, its, n, r, k _ _ (.inl rfl) e⟩
  | tup xs => obtain ⟨z, its, r, ob, e, c⟩ := x; exact ⟨z, its, r, ob, k _ _ (.inl rfl) e, c⟩
  | dK kvs => obtain ⟨z, y, vs, r, ob, es, ep, e, c⟩ := x; exact ⟨z, y, vs, r, ob, es, ep, k _ _ (.inl rfl) e, c⟩
  | dT kvs =>
    obtain ⟨z, y, xs, r, ob, es, ep, e, c⟩ := x
    exact ⟨z, y, xs, Paired.mapP r fun p q z => ⟨z.1, ht _ _ z.2.1, z.2.2⟩, ob, es, ep, k _ _ (.inl rfl) e, c⟩
  | set S n => obtain ⟨ob, es, ep, t, e, c⟩ := x; exact ⟨ob, es, ep, t, k _ _ (.inl rfl) e, c⟩
  | ins C dx fs =>
    obtain ⟨d, z, ne, e, mA, ⟨od, es, ep, e2, c⟩, r⟩ := x
    exact ⟨ho _ d, z, ne, k _ _ (.inl rfl) e, mA, ⟨od, es, ep, k _ _ (.inr d) e2, c⟩, r⟩
  | own y => obtain ⟨ob, e⟩ := x; exact ⟨ob, k _ _ (.inl rfl) e⟩
  | xd fs => obtain ⟨mA, ⟨od, es, ep, e, c⟩, r⟩ := x; exact ⟨mA, ⟨od, es, ep, k _ _ (.inl rfl) e, c⟩, r⟩
  | rng lo hi => obtain ⟨t, u, v, e⟩ := x; exact ⟨t, u, v, k _ _ (.inl rfl) e⟩
  | frz ob u ih => obtain ⟨e, q⟩ := x; exact ⟨k _ _ (.inl rfl) e, ih q⟩
  | tbl ps =>
    have e : h.get? a = some { cls := .none, data := .fields ps } := x
    show h'.get? a = some { cls := .none, data := .fields ps }
    exact k a _ (.inl rfl) e
  | met f y =>
    have e : h.get? a = some (PySem.W.methodObj (.ref f) (.ref y)) := x
    show h'.get? a = some (PySem.W.methodObj (.ref f) (.ref y))
    exact k a _ (.inl rfl) e
  | ext φ => obtain ⟨p, ⟨o, e⟩, st⟩ := x; exact ⟨st _ _ p fun o q => k _ _ (.inl rfl) q, ⟨o, k _ _ (.inl rfl) e⟩, st⟩
theorem HOk.lt (x : HOk P w H h) (e : H a = some o) : a < h.objs.size := (x a o e).lt
theorem HOk.fresh (x : HOk P w H h) (e : h.objs.size ≤ a) : H a = none := by
  cases q : H a with
  | none => rfl
  | some u => exact absurd (Nat.lt_of_lt_of_le (x.lt q) e) (Nat.lt_irrefl _)
theorem HOk.kept (x : HOk P w H h) (k : ∀ b u, h.get? b = some u → h'.get? b = some u) : HOk P w H h' := fun a o e =>
  (x a o e).stay (fun b u _ q => k b u q) (fun _ q => q) fun _ _ q => q
theorem HOk.laid (x : HOk P w H h) (k : ∀ b u, h.get? b = some u → h'.get? b = some u) (hp : h.objs.size ≤ a) (new : ObjOk P w (upd H a o) h' a o) : HOk P w (upd H a o) h' := fun b u e => by
  have hn := x.fresh hp
  by_cases hb : b = a
  · subst hb; rw [upd_same] at e; cases e; exact new
  · rw [upd_ne hb] at e
    exact (x b u e).stay (fun c v _ q => k c v q) (fun c q => by rw [upd_ne (ne_of_none q hn)]; exact q) fun c xs q => by rw [upd_ne (ne_of_none q hn)]; exact q
end
noncomputable def Rd (H : Hp) (a : Addr) (u : HO) : Prop := H a = some u ∨ ∃ o, H a = some (.frz o u)
theorem Rd.ok {P : Program} {w : World} {H : Hp} {h : Heap} {a : Addr} {u : HO} (r : Rd H a u) (x : HOk P w H h) : ObjOk P w H h a u := by
  rcases r with r | ⟨o, r⟩
  · exact x a u r
  · obtain ⟨_, q⟩ := x a _ r
    exact q
noncomputable def Mut : Option HO → Prop
  | some (.lst _) => True
  | some (.dK _) => True
  | some (.dT _) => True
  | some (.set _ _) => True
  | some (.ins _ _ _) => True
  | some (.ext _) => True
  | _ => False
section
variable {P : Program} {w : World} {H : Hp} {h h' : Heap} {x e : Addr} {o' : HO}
theorem HOk.write (ok : HOk P w H h) (mu : Mut (H x)) (he : e = x ∨ H e = some (.own x)) (k : ∀ b u, b ≠ e → h.get? b = some u → h'.get? b = some u) (heo : ∃ u, h'.get? e = some u)
    (new : ObjOk P w (upd H x o') h' x o') : HOk P w (upd H x o') h' := fun b u q => by
  have nown : ∀ c y, H c = some (.own y) → c ≠ x := fun c y r z => by subst z; rw [r] at mu; exact mu
  have ntup : ∀ c xs, H c = some (.tup xs) → c ≠ x := fun c xs r z => by subst z; rw [r] at mu; exact mu
  by_cases hb : b = x
  · subst hb; rw [upd_same] at q; cases q; exact new
  · rw [upd_ne hb] at q
    by_cases hbe : b = e
    · have q' : H b = some (.own x) := by
        rcases he with z | z
        · exact absurd (hbe.trans z) hb
        · rw [hbe]; exact z
      rw [q] at q'; cases q'
      obtain ⟨v, hv⟩ := heo
      exact ⟨v, by rw [hbe]; exact hv⟩
    · refine (ok b u q).stay (fun c v hc r => k c v ?_ r) (fun c r => by rw [upd_ne (nown c b r)]; exact r) fun c xs r => by rw [upd_ne (ntup c xs r)]; exact r
      rcases hc with rfl | hc
      · exact hbe
      · rintro rfl
        rcases he with z | z
        · exact nown c b hc z
        · rw [hc] at z; cases z; exact hb rfl
end
structure Un (fs ex : List Addr) (H H' : Hp) (h h' : Heap) : Prop where
  keep : ∀ b o, h.get? b = some o → H b = none → b ∉ fs → b ∉ ex → h'.get? b = some o
  slot : ∀ b o, h.get? b = some o → H b = none → b ∈ fs → b ∉ ex → ∃ sl, h'.get? b = some { o with slots := sl }
  free : ∀ b o, h.get? b = some o → H b = none → b ∉ ex → H' b = none
  there : ∀ b o, h.get? b = some o → b ∉ ex → ∃ o', h'.get? b = some o'
  tups : ∀ b xs, H b = some (.tup xs) → H' b = some (.tup xs)
  frzs : ∀ b o u, H b = some (.frz o u) → H' b = some (.frz o u)
  tbls : ∀ b ps, H b = some (.tbl ps) → ∃ more, H' b = some (.tbl (ps ++ more))
section
variable {fs fs' ex ex' : List Addr} {H H1 H2 : Hp} {h h1 h2 h' : Heap} {a x e : Addr} {o : HO}
theorem Un.any (u : Un fs ex H H1 h h1) {b : Addr} {ob : Obj} (q : h.get? b = some ob) (n : H b = none) (hx : b ∉ ex) : ∃ sl, h1.get? b = some { ob with slots := sl } := by
  by_cases hb : b ∈ fs
  · exact u.slot b ob q n hb hx
  · exact ⟨ob.slots, u.keep b ob q n hb hx⟩
theorem Un.kept (k : ∀ b u, h.get? b = some u → h'.get? b = some u) : Un fs ex H H h h' :=
  ⟨fun b ob q _ _ _ => k b ob q, fun b ob q _ _ _ => ⟨ob.slots, k b ob q⟩, fun _ _ _ n _ => n, fun b ob q _ => ⟨ob, k b ob q⟩, fun _ _ q => q, fun _ _ _ q => q, fun _ ps q => ⟨#[], by rw [q]; simp⟩⟩
theorem Un.refl : Un fs ex H H h h := Un.kept fun _ _ q => q
theorem Un.laid (k : ∀ b u, h.get? b = some u → h'.get? b = some u) (hp : h.objs.size ≤ a) (hn : H a = none) : Un fs ex H (upd H a o) h h' where
  keep := fun b u q _ _ _ => k b u q
  slot := fun b u q _ _ _ => ⟨u.slots, k b u q⟩
  free := fun b u q n _ => by rw [upd_ne (Nat.ne_of_lt (Nat.lt_of_lt_of_le (Heap.lt_size q) hp))]; exact n
  there := fun b u q _ => ⟨u, k b u q⟩
  tups := fun b xs q => by rw [upd_ne (ne_of_none q hn)]; exact q
  frzs := fun b u xs q => by rw [upd_ne (ne_of_none q hn)]; exact q
  tbls := fun b ps q => ⟨#[], by rw [upd_ne (ne_of_none q hn), q]; simp⟩
theorem Un.write (mu : Mut (H x)) (he : e = x ∨ H e = some (.own x)) (k : ∀ b u, b ≠ e → h.get? b = some u → h'.get? b = some u) (heo : ∃ u, h'.get? e = some u) : Un fs ex H (upd H x o) h h' := by
  have hx : ∀ b, H b = none → b ≠ x := fun b n z => by subst z; rw [n] at mu; exact mu
  have hb : ∀ b, H b = none → b ≠ e := fun b n z => by
    subst z
    rcases he with r | r
    · exact hx b n r
    · rw [n] at r; cases r
  have hm : ∀ b u, H b = some u → ¬ Mut (some u) → b ≠ x := fun b u q nm z => by subst z; rw [q] at mu; exact nm mu
  refine ⟨fun b u q n _ _ => k b u (hb b n) q, fun b u q n _ _ => ⟨u.slots, k b u (hb b n) q⟩, fun b u q n _ => by rw [upd_ne (hx b n)]; exact n, fun b u q _ => ?_,
    fun b xs q => by rw [upd_ne (hm b _ q fun z => z)]; exact q, fun b u xs q => by rw [upd_ne (hm b _ q fun z => z)]; exact q, fun b ps q => ⟨#[], by rw [upd_ne (hm b _ q fun z => z), q]; simp⟩⟩
  by_cases hbe : b = e
  · subst hbe; exact heo
  · exact ⟨u, k b u hbe q⟩
end
noncomputable def trk (h : Heap) (H : Hp) : List Addr := (List.range h.objs.size).filter fun a => (H a).isSome
noncomputable def hidT (h : Heap) (H : Hp) : Heap := PySem.W.hideAll h (trk h H)
theorem hidT_size (h : Heap) (H : Hp) : (hidT h H).objs.size = h.objs.size := PySem.W.hideAll_size _ _
theorem hidT_get {h : Heap} {H : Hp} {b : Addr} {o : Obj} (e : h.get? b = some o) (n : H b = none) : (hidT h H).get? b = some o :=
  PySem.W.hideAll_get _ e fun hm => by
    have q : (H b).isSome = true := (List.mem_filter.mp hm).2
    rw [n] at q; simp at q
theorem of_hidT {h : Heap} {H : Hp} {b : Addr} {o : Obj} (e : (hidT h H).get? b = some o) : h.get? b = some o ∧ H b = none := by
  have e' : h.get? b = some o := PySem.W.of_hideAll (trk h H) e
  refine ⟨e', ?_⟩
  cases q : H b with
  | none => rfl
  | some x =>
    have hm : b ∈ trk h H := List.mem_filter.mpr ⟨List.mem_range.mpr (Heap.lt_size e'), by simp [q]⟩
    have z : (hidT h H).get? b = none := PySem.W.hideAll_none (trk h H) hm
    rw [z] at e; cases e
end L2
namespace L2
open PySem PySem.Spec PyProof.Rows
structure Mod (K : PySem.W.Frag) (mg : Str → Option Value) (base : Heap) : Prop where
  kin : K.In base
  glob : base.Ns mainGlobals mg
  blt : ∃ mb, base.Ns builtinsNs mb ∧ ∀ x : Str, x ≠ "__name__" → mb x = bootBuiltins x
  nolimit : base.NoLimit
structure Cx where
  prog : Program
  w : World
  K : PySem.W.Frag
  mg : Str → Option Value
  base : Heap
  A : Around
  N : List Str
  s₀ : Shared
  H₀ : Hp
  env : Env
  outer : List Env
  stack : List Env
  ex : List Addr
  fn : Str → Bool
  calm : Bool
  pn : List (Addr × Obj)
  xe : Value → Shared → Prop
noncomputable def frs (l : List Env) : List Addr := l.filterMap (·.frame)
noncomputable abbrev Cx.fs (X : Cx) : List Addr := frs X.outer
noncomputable def Vis (sc : Scope) (x : Str) : Prop := sc.names.lookup x = some .local ∨ sc.names.lookup x = some .cell ∨ sc.names.lookup x = some .free
noncomputable def Loc (sc : Scope) (x : Str) : Prop := sc.names.lookup x = some .local ∨ sc.names.lookup x = some .cell
noncomputable def Look (env : Env) (h : Heap) (m : Str → Option Value) (x : Str) (u : Value) : Prop :=
  (env.kindOf x = some .local ∧ m x = some u) ∨ ((env.kindOf x = some .cell ∨ env.kindOf x = some .free) ∧ ∃ c, env.cells.lookup x = some c ∧ h.IsCell c (some u))
structure Cx.Ok (X : Cx) : Prop where
  mod : Mod X.K X.mg X.base
  kind : X.env.scope.kind = .function
  glob : X.env.globals = mainGlobals
  blt : X.env.builtins = builtinsNs
  above : X.s₀.heap.objs.size ≤ X.env.locals
  inj : ∀ x y c, X.env.cells.lookup x = some c → X.env.cells.lookup y = some c → x = y
  has : ∀ x, (X.env.kindOf x = some .cell ∨ X.env.kindOf x = some .free) → ∃ c, X.env.cells.lookup x = some c
  cab : ∀ x c, X.fn x = true → X.env.cells.lookup x = some c → X.s₀.heap.objs.size ≤ c
  hd : X.calm = true → X.A.handled = none
  frames : X.A.frames = some X.stack
  stk : X.stack = X.outer ∨ (X.stack = X.env :: X.outer ∧ X.env.frame = some X.env.locals)
  exf : ∀ b ∈ X.ex, b ≠ X.env.locals ∧ ∀ x c, X.env.cells.lookup x = some c → c ≠ b
  bs : ∀ b o, X.base.get? b = some o → X.s₀.heap.get? b = some o ∧ X.H₀ b = none
  bsz : X.base.objs.size ≤ X.s₀.heap.objs.size
  noex : ∀ b o, X.base.get? b = some o → b ∉ X.ex
  exfs : ∀ b ∈ X.ex, b ∉ X.fs
  funs : X.s₀.heap.FunFrames X.base X.outer
  frf : ∀ b ∈ X.fs, X.H₀ b = none
structure Inv (X : Cx) (pins : List (Addr × Obj)) (σ : List (Option V)) (H : Hp) (s : Shared) : Prop where
  ok : X.Ok
  os : s.os = X.s₀.os
  bare : AllBare s.gens
  base : Un X.fs X.ex X.H₀ H X.s₀.heap s.heap
  loc : ∃ m, s.heap.Ns X.env.locals m ∧ ∀ (i : Nat) (x : Str) (v : V), X.N[i]? = some x → σ[i]? = some (some v) → Vis X.env.scope x → ∃ u, RelV v u ∧ Look X.env s.heap m x u
  cell : ∀ x c, X.env.cells.lookup x = some c → ∃ v, s.heap.IsCell c v
  free : H X.env.locals = none
  freeC : ∀ x c, X.env.cells.lookup x = some c → H c = none
  pin : ∀ p ∈ X.pn ++ pins, s.heap.get? p.1 = some p.2 ∧ H p.1 = none ∧ p.1 ≠ X.env.locals ∧ p.1 ∉ X.fs ∧ ∀ v, p.2.data ≠ .cell v
  hok : HOk X.prog X.w H s.heap
  len : σ.length = X.N.length
section
variable {X : Cx} {pins : List (Addr × Obj)} {σ : List (Option V)} {H H' : Hp} {s : Shared} {h' : Heap}
theorem Cx.Ok.nofr (ok : X.Ok) {b : Addr} {o : Obj} (e : X.base.get? b = some o) : b ∉ X.fs := fun hb => by
  have := (ok.funs.mem hb).1
  rw [e] at this; cases this
theorem Inv.bs (I : Inv X pins σ H s) : ∀ b o, X.base.get? b = some o → s.heap.get? b = some o ∧ H b = none := fun b o e =>
  ⟨I.base.keep b o (I.ok.bs b o e).1 (I.ok.bs b o e).2 (I.ok.nofr e) (I.ok.noex b o e), I.base.free b o (I.ok.bs b o e).1 (I.ok.bs b o e).2 (I.ok.noex b o e)⟩
theorem Inv.bk (I : Inv X pins σ H s) : ∀ b o, X.base.get? b = some o → s.heap.get? b = some o := fun b o e => (I.bs b o e).1
theorem Inv.mod (I : Inv X pins σ H s) : Mod X.K X.mg X.base := I.ok.mod
theorem Inv.kIn (I : Inv X pins σ H s) : X.K.In s.heap := I.ok.mod.kin.keeps I.bk
theorem Inv.lt (I : Inv X pins σ H s) : X.env.locals < s.heap.objs.size := let ⟨_, hn, _⟩ := I.loc; hn.lt
theorem Inv.sz (I : Inv X pins σ H s) : X.s₀.heap.objs.size ≤ s.heap.objs.size := Nat.le_trans I.ok.above (Nat.le_of_lt I.lt)
theorem Inv.nofs (I : Inv X pins σ H s) {a : Addr} (h : s.heap.objs.size ≤ a) : a ∉ X.fs := fun hb => by
  obtain ⟨_, o, ho, _⟩ := I.ok.funs.mem hb
  exact absurd (Nat.lt_of_lt_of_le (Heap.lt_size ho) (Nat.le_trans I.sz h)) (Nat.lt_irrefl _)
theorem Inv.cne (I : Inv X pins σ H s) : ∀ x c, X.env.cells.lookup x = some c → c ≠ X.env.locals := fun x c e z => by
  obtain ⟨v, o, ho, hd⟩ := I.cell x c e
  obtain ⟨m, ⟨o', es, ep, ho', hd', _⟩, _⟩ := I.loc
  rw [z, ho'] at ho; cases ho; rw [hd'] at hd; cases hd
theorem Inv.funs (I : Inv X pins σ H s) : s.heap.FunFrames X.base X.outer := by
  have all : ∀ (l : List Env), (∀ b ∈ frs l, b ∈ X.fs) → X.s₀.heap.FunFrames X.base l → s.heap.FunFrames X.base l := by
    intro l
    induction l with
    | nil => intro _ _; trivial
    | cons env r ih =>
      intro hs hl
      obtain ⟨hk, ⟨L, o, hf, hn, ho, hd⟩, hr⟩ := hl
      have hL : L ∈ X.fs := hs L (by unfold frs; rw [List.filterMap_cons, hf]; exact List.mem_cons_self)
      obtain ⟨sl, e⟩ := I.base.slot L o ho (I.ok.frf L hL) hL fun z => I.ok.exfs L z hL
      exact ⟨hk, ⟨L, _, hf, hn, e, hd⟩, ih (fun b hb => hs b (by unfold frs; rw [List.filterMap_cons, hf]; exact List.mem_cons_of_mem _ hb)) hr⟩
  exact all X.outer (fun _ hb => hb) I.ok.funs
theorem Inv.stack (I : Inv X pins σ H s) : s.heap.FunFrames X.base X.stack := by
  rcases I.ok.stk with e | ⟨e, hf⟩
  · rw [e]; exact I.funs
  · rw [e]
    obtain ⟨m, hn, _⟩ := I.loc
    refine .cons (by rw [I.ok.kind]; decide) hf hn ?_ I.funs
    exact Heap.get?_none_of_le (Nat.le_trans I.ok.bsz I.ok.above)
theorem Inv.stkSub (I : Inv X pins σ H s) : ∀ b ∈ frs X.stack, b ∈ X.env.locals :: X.fs := fun b hb => by
  rcases I.ok.stk with e | ⟨e, hf⟩
  · rw [e] at hb; exact List.mem_cons_of_mem _ hb
  · rw [e] at hb
    unfold frs at hb
    rw [List.filterMap_cons, hf] at hb
    exact hb
theorem Inv.stkFree (I : Inv X pins σ H s) : ∀ b ∈ frs X.stack, H b = none := fun b hb => by
  rcases List.mem_cons.mp (I.stkSub b hb) with e | hb
  · rw [e]; exact I.free
  · obtain ⟨_, o, ho, _⟩ := I.ok.funs.mem hb
    exact I.base.free b o ho (I.ok.frf b hb) fun z => I.ok.exfs b z hb
theorem Inv.step {g' : Array GenState} {t' : Nat} {d' : Drawn} {ch : List Addr} (I : Inv X pins σ H s)
    (hch : ∀ b ∈ ch, (b ∈ X.ex ∨ X.s₀.heap.objs.size ≤ b) ∧ b ≠ X.env.locals ∧ (∀ x c, X.env.cells.lookup x = some c → c ≠ b) ∧ ∀ p ∈ X.pn ++ pins, p.1 ≠ b)
    (keep : ∀ b o, b ≠ X.env.locals → b ∉ X.fs → b ∉ ch → s.heap.get? b = some o → H b = none → h'.get? b = some o)
    (slot : ∀ b o, b ≠ X.env.locals → b ∈ X.fs → b ∉ ch → s.heap.get? b = some o → H b = none → ∃ sl, h'.get? b = some { o with slots := sl }) (free : ∀ b o, b ∉ ch → s.heap.get? b = some o → H b = none → H' b = none)
    (there : ∀ b o, b ∉ ch → s.heap.get? b = some o → ∃ o', h'.get? b = some o')
    (tups : ∀ b xs, H b = some (.tup xs) → H' b = some (.tup xs)) (frzs : ∀ b o u, H b = some (.frz o u) → H' b = some (.frz o u)) (tbls : ∀ b ps, H b = some (.tbl ps) → ∃ more, H' b = some (.tbl (ps ++ more)))
    (ns : ∀ m, s.heap.Ns X.env.locals m → h'.Ns X.env.locals m) (hok : HOk X.prog X.w H' h') (hg : AllBare g') :
    Inv X pins σ H' { s with heap := h', gens := g', drawn := d', toks := t' } := by
  have neL : ∀ b o, X.s₀.heap.get? b = some o → b ≠ X.env.locals := fun b o e => Nat.ne_of_lt (Nat.lt_of_lt_of_le (Heap.lt_size e) I.ok.above)
  have neC : ∀ b o, X.s₀.heap.get? b = some o → b ∉ X.ex → b ∉ ch := fun b o e hx hb => by
    rcases (hch b hb).1 with z | z
    · exact hx z
    · exact absurd (Nat.lt_of_lt_of_le (Heap.lt_size e) z) (Nat.lt_irrefl _)
  have cellK : ∀ x c, X.env.cells.lookup x = some c → ∀ v, s.heap.IsCell c v → h'.IsCell c v := fun x c e v ⟨o, ho, hd⟩ => by
    have nch : c ∉ ch := fun z => (hch c z).2.2.1 x c e rfl
    by_cases hc : c ∈ X.fs
    · obtain ⟨sl, q⟩ := slot c o (I.cne x c e) hc nch ho (I.freeC x c e)
      exact ⟨_, q, hd⟩
    · exact ⟨o, keep c o (I.cne x c e) hc nch ho (I.freeC x c e), hd⟩
  refine ⟨I.ok, I.os, hg, ⟨fun b o e n hb hx => ?_, fun b o e n hb hx => ?_, fun b o e n hx => ?_, fun b o e hx => ?_, fun b xs e => tups b xs (I.base.tups b xs e), fun b o xs e => frzs b o xs (I.base.frzs b o xs e), fun b ps e => ?_⟩, ?_, fun x c e => ?_, ?_, fun x c e => ?_, fun p hp => ?_, hok, I.len⟩
  · exact keep b o (neL b o e) hb (neC b o e hx) (I.base.keep b o e n hb hx) (I.base.free b o e n hx)
  · obtain ⟨sl, e1⟩ := I.base.slot b o e n hb hx
    obtain ⟨sl', e2⟩ := slot b _ (neL b o e) hb (neC b o e hx) e1 (I.base.free b o e n hx)
    exact ⟨sl', e2⟩
  · obtain ⟨o', e1⟩ := I.base.there b o e hx
    exact free b o' (neC b o e hx) e1 (I.base.free b o e n hx)
  · obtain ⟨o', e1⟩ := I.base.there b o e hx
    exact there b o' (neC b o e hx) e1
  · obtain ⟨m1, e1⟩ := I.base.tbls b ps e
    obtain ⟨m2, e2⟩ := tbls b _ e1
    exact ⟨m1 ++ m2, by rw [e2, Array.append_assoc]⟩
  · obtain ⟨m, hn, hl⟩ := I.loc
    refine ⟨m, ns m hn, fun i x v e1 e2 e3 => ?_⟩
    obtain ⟨u, r, l⟩ := hl i x v e1 e2 e3
    refine ⟨u, r, ?_⟩
    rcases l with l | ⟨k, c, e, z⟩
    · exact .inl l
    · exact .inr ⟨k, c, e, cellK x c e _ z⟩
  · obtain ⟨v, z⟩ := I.cell x c e
    exact ⟨v, cellK x c e v z⟩
  · obtain ⟨m, ⟨o, _, _, ho, _⟩, _⟩ := I.loc
    exact free _ o (fun z => (hch _ z).2.1 rfl) ho I.free
  · obtain ⟨v, o, ho, hd⟩ := I.cell x c e
    exact free c o (fun z => (hch c z).2.2.1 x c e rfl) ho (I.freeC x c e)
  · obtain ⟨e, n, ne, nf, d⟩ := I.pin p hp
    have nch : p.1 ∉ ch := fun z => (hch p.1 z).2.2.2 p hp rfl
    exact ⟨keep p.1 p.2 ne nf nch e n, free p.1 p.2 nch e n, ne, nf, d⟩
theorem Inv.un {t' : Nat} (I : Inv X pins σ H s) (u : Un X.fs [] H H' s.heap h') (hok : HOk X.prog X.w H' h') : Inv X pins σ H' { s with heap := h', toks := t' } := by
  obtain ⟨m, ⟨o, es, ep, ho, r⟩, _⟩ := id I.loc
  obtain ⟨sl, hL⟩ := u.any ho I.free (by simp)
  exact I.step (g' := s.gens) (d' := s.drawn) (ch := []) (fun _ z => nomatch z) (fun b o _ hb _ e n => u.keep b o e n hb (by simp)) (fun b o _ hb _ e n => u.slot b o e n hb (by simp)) (fun b o _ e n => u.free b o e n (by simp)) (fun b o _ e => u.there b o e (by simp)) u.tups u.frzs u.tbls (fun m' hm => by
    obtain ⟨o', es', ep', ho', r'⟩ := hm
    rw [ho] at ho'; cases ho'
    exact ⟨_, es', ep', hL, r'⟩) hok I.bare
theorem Inv.call {g' : Array GenState} {t' : Nat} {d' : Drawn} {ch : List Addr} (I : Inv X pins σ H s) (u : Un (frs X.stack) ch H H' s.heap h') (hok : HOk X.prog X.w H' h') (hg : AllBare g')
    (hch : ∀ b ∈ ch, (b ∈ X.ex ∨ X.s₀.heap.objs.size ≤ b) ∧ b ≠ X.env.locals ∧ (∀ x c, X.env.cells.lookup x = some c → c ≠ b) ∧ ∀ p ∈ X.pn ++ pins, p.1 ≠ b) :
    Inv X pins σ H' { s with heap := h', gens := g', drawn := d', toks := t' } := by
  obtain ⟨m, ⟨o, es, ep, ho, r⟩, _⟩ := id I.loc
  obtain ⟨sl, hL⟩ := u.any ho I.free fun z => (hch _ z).2.1 rfl
  exact I.step (ch := ch) hch (fun b o hL hb hc e n => u.keep b o e n (fun z => (List.mem_cons.mp (I.stkSub b z)).elim hL hb) hc) (fun b o _ _ hc e n => u.any e n hc) (fun b o hc e n => u.free b o e n hc) (fun b o hc e => u.there b o e hc) u.tups u.frzs u.tbls (fun m' hm => by
    obtain ⟨o', es', ep', ho', r'⟩ := hm
    rw [ho] at ho'; cases ho'
    exact ⟨_, es', ep', hL, r'⟩) hok hg
theorem Inv.turned {t' : Nat} {it : Addr} (I : Inv X pins σ H s) (k : ∀ b o, b ≠ it → s.heap.get? b = some o → h'.get? b = some o) (hn : H it = none) (hL : it ≠ X.env.locals)
    (h1 : it ∈ X.ex ∨ X.s₀.heap.objs.size ≤ it) (h2 : ∀ x c, X.env.cells.lookup x = some c → c ≠ it) (h3 : ∀ p ∈ X.pn ++ pins, p.1 ≠ it) : Inv X pins σ H { s with heap := h', toks := t' } := by
  have nit : ∀ b u, H b = some u → b ≠ it := fun b u e z => by rw [z, hn] at e; cases e
  refine I.step (g' := s.gens) (d' := s.drawn) (ch := [it]) (fun b hb => ?_) (fun b o _ _ hc e _ => k b o (fun z => hc (by simp [z])) e) (fun b o _ _ hc e _ => ⟨o.slots, k b o (fun z => hc (by simp [z])) e⟩) (fun _ _ _ _ n => n)
    (fun b o hc e => ⟨o, k b o (fun z => hc (by simp [z])) e⟩) (fun _ _ e => e) (fun _ _ _ e => e) (fun b ps e => ⟨#[], by rw [e]; simp⟩) (fun m hm => ?_) (fun b u e => ?_) I.bare
  · have e : b = it := by simpa using hb
    subst e
    exact ⟨h1, hL, h2, h3⟩
  · obtain ⟨o, es, ep, ho, r⟩ := hm
    exact ⟨o, es, ep, k _ o (Ne.symm hL) ho, r⟩
  · refine (I.hok b u e).stay (fun c v hc q => k c v ?_ q) (fun _ q => q) fun _ _ q => q
    rcases hc with z | z
    · rw [z]; exact nit b u e
    · exact nit c _ z
theorem Inv.tok (I : Inv X pins σ H s) (t : Nat) : Inv X pins σ H { s with toks := t } := I.un (h' := s.heap) (t' := t) Un.refl I.hok
theorem Inv.kept {t' : Nat} (I : Inv X pins σ H s) (k : ∀ b u, s.heap.get? b = some u → h'.get? b = some u) : Inv X pins σ H { s with heap := h', toks := t' } := I.un (Un.kept k) (I.hok.kept k)
theorem Inv.laid {a : Addr} {o : HO} {t' : Nat} (I : Inv X pins σ H s) (k : ∀ b u, s.heap.get? b = some u → h'.get? b = some u) (hp : s.heap.objs.size ≤ a) (new : ObjOk X.prog X.w (upd H a o) h' a o) :
    Inv X pins σ (upd H a o) { s with heap := h', toks := t' } := I.un (Un.laid k hp (I.hok.fresh hp)) (I.hok.laid k hp new)
theorem Inv.write {x e : Addr} {o : HO} {t' : Nat} (I : Inv X pins σ H s) (mu : Mut (H x)) (he : e = x ∨ H e = some (.own x)) (k : ∀ b u, b ≠ e → s.heap.get? b = some u → h'.get? b = some u) (heo : ∃ u, h'.get? e = some u)
    (new : ObjOk X.prog X.w (upd H x o) h' x o) : Inv X pins σ (upd H x o) { s with heap := h', toks := t' } := I.un (Un.write mu he k heo) (I.hok.write mu he k heo new)
theorem Inv.pins_of {pins' : List (Addr × Obj)} (I : Inv X pins σ H s) (h : ∀ p ∈ pins', s.heap.get? p.1 = some p.2 ∧ H p.1 = none ∧ p.1 ≠ X.env.locals ∧ p.1 ∉ X.fs ∧ ∀ v, p.2.data ≠ .cell v) : Inv X pins' σ H s :=
  ⟨I.ok, I.os, I.bare, I.base, I.loc, I.cell, I.free, I.freeC, fun p hp => (List.mem_append.mp hp).elim (fun z => I.pin p (List.mem_append_left _ z)) (h p), I.hok, I.len⟩
theorem nodup_ix {N : List Str} (hN : N.Nodup) {i j : Nat} {x : Str} (a : N[i]? = some x) (b : N[j]? = some x) : i = j := by
  obtain ⟨h1, e1⟩ := List.getElem?_eq_some_iff.mp a
  obtain ⟨h2, e2⟩ := List.getElem?_eq_some_iff.mp b
  exact (List.getElem_inj hN).mp (e1.trans e2.symm)
theorem store_ok2 {M : Model} {A : Around} {E : Value → Shared → Prop} {i : Nat} {x : Str} {v : V} {u : Value} {Q : Unit → Shared → Prop} (I : Inv X pins σ H s) (hN : X.N.Nodup) (hi : X.N[i]? = some x) (hx : Loc X.env.scope x) (r : RelV v u)
    (h : ∀ s', Inv X pins (σ.set i (some v)) H s' → (∃ a, Heap.SameBut a s.heap s'.heap ∧ (a = X.env.locals ∨ X.env.cells.lookup x = some a)) → Q () s') (hf : X.fn x = true ∨ X.env.scope.names.lookup x = some .local := by first | exact .inl rfl | exact .inr rfl | assumption) : wpAny M A (storeName X.env x u) Q E s := by
  obtain ⟨m, hn, hl⟩ := id I.loc
  have hcls : (X.env.scope.kind == .class || (X.env.scope.kind == .module && X.env.locals != X.env.globals)) = false := by rw [I.ok.kind]; rfl
  have hiσ : i < σ.length := by rw [I.len]; exact (List.getElem?_eq_some_iff.mp hi).1
  have cne := I.cne
  have tracked : ∀ {a : Addr} {h' : Heap}, (∃ o, s.heap.get? a = some o ∧ H a = none) → Heap.SameBut a s.heap h' → HOk X.prog X.w H h' := fun {a h'} ha hs b ob e => by
    obtain ⟨_, _, hfree⟩ := ha
    refine (I.hok b ob e).stay (fun c w' hc q => (hs.2 c ?_).trans q) (fun _ q => q) fun _ _ q => q
    rintro rfl
    rcases hc with rfl | hc
    · rw [hfree] at e; cases e
    · rw [hfree] at hc; cases hc
  rcases hx with hk | hk
  · refine wpAny_storeName_local hk hn (fun h' hn' hs => ?_) hcls
    obtain ⟨oL, _, _, hoL, _⟩ := id hn
    refine h _ ⟨I.ok, I.os, I.bare, ⟨fun b o e n hb hx => ?_, fun b o e n hb hx => ?_, I.base.free, fun b o e hx => ?_, I.base.tups, I.base.frzs, I.base.tbls⟩, ⟨_, hn', fun j y v' e1 e2 e3 => ?_⟩, fun y c e => ?_, I.free, I.freeC, fun p hp => ?_, tracked ⟨oL, hoL, I.free⟩ hs, by simpa using I.len⟩ ⟨_, hs, .inl rfl⟩
    · exact (hs.2 b (Nat.ne_of_lt (Nat.lt_of_lt_of_le (Heap.lt_size e) I.ok.above))).trans (I.base.keep b o e n hb hx)
    · obtain ⟨sl, e1⟩ := I.base.slot b o e n hb hx
      exact ⟨sl, (hs.2 b (Nat.ne_of_lt (Nat.lt_of_lt_of_le (Heap.lt_size e) I.ok.above))).trans e1⟩
    · obtain ⟨o', e1⟩ := I.base.there b o e hx
      exact ⟨o', (hs.2 b (Nat.ne_of_lt (Nat.lt_of_lt_of_le (Heap.lt_size e) I.ok.above))).trans e1⟩
    · by_cases hj : j = i
      · subst hj
        rw [hi] at e1; cases e1
        rw [List.getElem?_set_self hiσ] at e2
        cases e2
        exact ⟨u, r, .inl ⟨hk, by simp⟩⟩
      · rw [List.getElem?_set_ne (Ne.symm hj)] at e2
        obtain ⟨u', r', q⟩ := hl j y v' e1 e2 e3
        refine ⟨u', r', ?_⟩
        rcases q with ⟨k, e⟩ | ⟨k, c, e, z⟩
        · refine .inl ⟨k, ?_⟩
          have : y ≠ x := fun e => hj (nodup_ix hN e1 (e ▸ hi))
          simp [this, e]
        · exact .inr ⟨k, c, e, z.sameBut hs (cne y c e)⟩
    · obtain ⟨w', z⟩ := I.cell y c e
      exact ⟨w', z.sameBut hs (cne y c e)⟩
    · obtain ⟨e, n, ne, nf, d⟩ := I.pin p hp
      exact ⟨(hs.2 p.1 ne).trans e, n, ne, nf, d⟩
  · have hfn : X.fn x = true := by
      rcases hf with z | z
      · exact z
      · rw [z] at hk; cases hk
    obtain ⟨c, hc⟩ := I.ok.has x (.inl hk)
    obtain ⟨w', z⟩ := I.cell x c hc
    refine wpAny_storeName_cell I.ok.kind hk hc z (fun h' hc' hs => ?_)
    obtain ⟨oc, hoc, hocd⟩ := id z
    refine h { s with heap := h' } ⟨I.ok, I.os, I.bare, ⟨fun b o e n hb hx => ?_, fun b o e n hb hx => ?_, I.base.free, fun b o e hx => ?_, I.base.tups, I.base.frzs, I.base.tbls⟩, ⟨m, hn.sameBut hs (Ne.symm (cne x c hc)), fun j y v' e1 e2 e3 => ?_⟩, fun y c' e => ?_, I.free, I.freeC, fun p hp => ?_, tracked ⟨oc, hoc, I.freeC x c hc⟩ hs, by simpa using I.len⟩ ⟨c, hs, .inr hc⟩
    · exact (hs.2 b (Nat.ne_of_lt (Nat.lt_of_lt_of_le (Heap.lt_size e) (I.ok.cab x c hfn hc)))).trans (I.base.keep b o e n hb hx)
    · obtain ⟨sl, e1⟩ := I.base.slot b o e n hb hx
      exact ⟨sl, (hs.2 b (Nat.ne_of_lt (Nat.lt_of_lt_of_le (Heap.lt_size e) (I.ok.cab x c hfn hc)))).trans e1⟩
    · obtain ⟨o', e1⟩ := I.base.there b o e hx
      exact ⟨o', (hs.2 b (Nat.ne_of_lt (Nat.lt_of_lt_of_le (Heap.lt_size e) (I.ok.cab x c hfn hc)))).trans e1⟩
    · by_cases hj : j = i
      · subst hj
        rw [hi] at e1; cases e1
        rw [List.getElem?_set_self hiσ] at e2
        cases e2
        exact ⟨u, r, .inr ⟨.inl hk, c, hc, hc'⟩⟩
      · rw [List.getElem?_set_ne (Ne.symm hj)] at e2
        obtain ⟨u', r', q⟩ := hl j y v' e1 e2 e3
        refine ⟨u', r', ?_⟩
        rcases q with q | ⟨k, c', e, z'⟩
        · exact .inl q
        · refine .inr ⟨k, c', e, z'.sameBut hs ?_⟩
          rintro rfl
          exact hj (nodup_ix hN e1 (I.ok.inj _ _ _ e hc ▸ hi))
    · by_cases hcc : c' = c
      · subst hcc; exact ⟨_, hc'⟩
      · obtain ⟨w2, z2⟩ := I.cell y c' e
        exact ⟨w2, z2.sameBut hs hcc⟩
    · obtain ⟨e, n, ne, nf, d⟩ := I.pin p hp
      refine ⟨(hs.2 p.1 ?_).trans e, n, ne, nf, d⟩
      intro q
      rw [q, hoc] at e
      have q' : oc = p.2 := Option.some.inj e
      exact d w' (by rw [← q']; exact hocd)
theorem store_ok {M : Model} {A : Around} {E : Value → Shared → Prop} {i : Nat} {x : Str} {v : V} {u : Value} {Q : Unit → Shared → Prop} (I : Inv X pins σ H s) (hN : X.N.Nodup) (hi : X.N[i]? = some x) (hx : Loc X.env.scope x) (r : RelV v u)
    (h : ∀ s', Inv X pins (σ.set i (some v)) H s' → Q () s') (hf : X.fn x = true ∨ X.env.scope.names.lookup x = some .local := by first | exact .inl rfl | exact .inr rfl | assumption) : wpAny M A (storeName X.env x u) Q E s :=
  store_ok2 I hN hi hx r (fun s' I' _ => h s' I') hf
theorem Inv.call' {s' : Shared} {ch : List Addr} (I : Inv X pins σ H s) (ho : s'.os = s.os) (u : Un (frs X.stack) ch H H' s.heap s'.heap) (hok : HOk X.prog X.w H' s'.heap) (hg : AllBare s'.gens)
    (hch : ∀ b ∈ ch, (b ∈ X.ex ∨ X.s₀.heap.objs.size ≤ b) ∧ b ≠ X.env.locals ∧ (∀ x c, X.env.cells.lookup x = some c → c ≠ b) ∧ ∀ p ∈ X.pn ++ pins, p.1 ≠ b) : Inv X pins σ H' s' := by
  obtain ⟨h', g', d', t', o'⟩ := s'
  have e : o' = s.os := ho
  subst e
  exact I.call (g' := g') (t' := t') (d' := d') u hok hg hch
end
noncomputable abbrev XK := Value → Option Addr → Hp → Prop
noncomputable abbrev St := List (Option V)
noncomputable abbrev VK := V → Hp → Prop
noncomputable abbrev TE := St → Hp → VK → Prop
noncomputable abbrev TT := St → Hp → (Bool → Hp → Prop) → Prop
noncomputable abbrev TA := St → Hp → (List V → Hp → Prop) → Prop
structure Ends where
  nx : St → Hp → Prop
  rt : VK
  bk : St → Hp → Prop := fun _ _ => False
  ct : St → Hp → Prop := fun _ _ => False
noncomputable abbrev TS := Ends → St → Hp → Prop
noncomputable def EP (X : Cx) (pins : List (Addr × Obj)) (σ : St) (Q : VK) (u : Value) (s' : Shared) : Prop := ∃ v H', Inv X pins σ H' s' ∧ RelV v u ∧ Q v H'
noncomputable def TP (X : Cx) (pins : List (Addr × Obj)) (σ : St) (Q : Bool → Hp → Prop) (b : Bool) (s' : Shared) : Prop := ∃ H', Inv X pins σ H' s' ∧ Q b H'
noncomputable def AP (X : Cx) (pins : List (Addr × Obj)) (σ : St) (Q : List V → Hp → Prop) (us : List Value) (s' : Shared) : Prop := ∃ vs H', Inv X pins σ H' s' ∧ Vals vs us ∧ Q vs H'
noncomputable def SP (X : Cx) (pins : List (Addr × Obj)) (D : Ends) (f : Flow) (s' : Shared) : Prop :=
  match f with
  | .next => ∃ σ' H', Inv X pins σ' H' s' ∧ D.nx σ' H'
  | .brk => ∃ σ' H', Inv X pins σ' H' s' ∧ D.bk σ' H'
  | .cont => ∃ σ' H', Inv X pins σ' H' s' ∧ D.ct σ' H'
  | .ret u => ∃ v σ' H', Inv X pins σ' H' s' ∧ RelV v u ∧ D.rt v H'
noncomputable def PE (X : Cx) (e : Expr) (t : TE) : Prop :=
  ∀ (pins : List (Addr × Obj)) (s : Shared) (σ : St) (H : Hp) (Q : VK), Inv X pins σ H s → t σ H Q → wpAny (model X.prog X.w) X.A (eval e X.env) (EP X pins σ Q) X.xe s
noncomputable def PT (X : Cx) (e : Expr) (t : TT) : Prop :=
  ∀ (pins : List (Addr × Obj)) (s : Shared) (σ : St) (H : Hp) (Q : Bool → Hp → Prop), Inv X pins σ H s → t σ H Q → wpAny (model X.prog X.w) X.A (isTrue e X.env (eval e X.env)) (TP X pins σ Q) X.xe s
noncomputable def PW (X : Cx) (e : Expr) (t : TT) : Prop :=
  ∀ (whole : Sem Value) (pins : List (Addr × Obj)) (s : Shared) (σ : St) (H : Hp) (Q : Bool → Hp → Prop), Inv X pins σ H s → t σ H Q → wpAny (model X.prog X.w) X.A (isTrue e X.env whole) (TP X pins σ Q) X.xe s
theorem PW.pt {X : Cx} {e : Expr} {t : TT} (h : PW X e t) : PT X e t := h _
noncomputable def PA (X : Cx) (es : List Expr) (t : TA) : Prop :=
  ∀ (pos : Pos) (pins : List (Addr × Obj)) (s : Shared) (σ : St) (H : Hp) (Q : List V → Hp → Prop), Inv X pins σ H s → t σ H Q → wpAny (model X.prog X.w) X.A (spliced (backTo pos (starEach es X.env))) (AP X pins σ Q) X.xe s
noncomputable def PS (X : Cx) (st : Stmt) (t : TS) : Prop :=
  ∀ (pins : List (Addr × Obj)) (s : Shared) (σ : St) (H : Hp) (D : Ends), Inv X pins σ H s → t D σ H → wpAny (model X.prog X.w) X.A (exec st X.env) (SP X pins D) X.xe s
noncomputable def PSs (X : Cx) (st : List Stmt) (t : TS) : Prop :=
  ∀ (pins : List (Addr × Obj)) (s : Shared) (σ : St) (H : Hp) (D : Ends), Inv X pins σ H s → t D σ H → wpAny (model X.prog X.w) X.A (execs st X.env) (SP X pins D) X.xe s
theorem thn {α : Type} {t : Sem α} {Q Q' : α → Shared → Prop} {M : Model} {A : Around} {E : Value → Shared → Prop} {s : Shared} (h : wpAny M A t Q E s) (hQ : ∀ a s, Q a s → Q' a s) : wpAny M A t Q' E s := wpAny_mono h hQ fun _ _ x => x
end L2
namespace L2
open PySem PySem.Spec PyProof.Rows
section
variable {X : Cx}
theorem bin {a b : Expr} {ta tb : TE} (ha : PE X a ta) (hb : PE X b tb) {pins : List (Addr × Obj)} {s : Shared} {σ : St} {H : Hp} {R : V → V → Hp → Prop} (I : Inv X pins σ H s) (h : ta σ H fun x H1 => tb σ H1 fun y H2 => R x y H2)
    {α : Type} {Q : α → Shared → Prop} {f : Value → Value → Sem α}
    (hf : ∀ v u s2 x y H2, Inv X pins σ H2 s2 → RelV x v → RelV y u → R x y H2 → wpAny (model X.prog X.w) X.A (f v u) Q X.xe s2) :
    wpAny (model X.prog X.w) X.A (eval a X.env) (fun v s₁ => wpAny (model X.prog X.w) X.A (eval b X.env) (fun u s₂ => wpAny (model X.prog X.w) X.A (f v u) Q X.xe s₂) X.xe s₁) X.xe s := by
  refine thn (ha pins s σ H _ I h) fun v s1 ⟨x, H1, I1, r1, q1⟩ => ?_
  refine thn (hb pins s1 σ H1 _ I1 q1) fun u s2 ⟨y, H2, I2, r2, q2⟩ => ?_
  exact hf v u s2 x y H2 I2 r1 r2 q2
noncomputable def tVar (i : Nat) : TE := fun σ H Q => ∃ v, σ[i]? = some (some v) ∧ Q v H
noncomputable def tC (v : V) : TE := fun _ H Q => Q v H
theorem pe_var {i : Nat} {x : Str} {pos : Pos} (hN : X.N[i]? = some x) (hv : Vis X.env.scope x) (hd : (x == ("__debug__" : Str)) = false := by decide) (hcd : (x == ("__classdict__" : Str)) = false := by decide) : PE X (.Name x pos) (tVar i) := by
  intro pins s σ H Q I h
  obtain ⟨v, e, h⟩ := h
  obtain ⟨m, hn, hl⟩ := I.loc
  obtain ⟨u, r, l⟩ := hl i x v hN e hv
  have fin : EP X pins σ Q u s := ⟨v, H, I, r, h⟩
  rcases l with ⟨hk, hm⟩ | ⟨hk, c, hc, hcell⟩
  · exact wpAny_Name (wpAny_loadName_local I.ok.kind hk hn hm fin) hd
  · rcases hk with hk | hk
    · exact wpAny_Name (wpAny_loadName_cell I.ok.kind hk hc hcell fin) hd
    · exact wpAny_Name (wpAny_loadName_free I.ok.kind hk hc hcell fin hcd) hd
theorem pe_int {i j pos} : PE X (.Constant (.int i) j pos) (tC (.int i)) := fun _ _ _ H _ I h => wpAny_Constant_int ⟨.int i, H, I.tok _, ⟨_, rfl⟩, h⟩
theorem pe_bl {b j pos} : PE X (.Constant (.bool b) j pos) (tC (.bl b)) := fun _ _ _ H _ I h => Constant_bool ⟨.bl b, H, I, rfl, h⟩
theorem pe_non {j pos} : PE X (.Constant .none j pos) (tC .non) := fun _ _ _ H _ I h => Constant_none ⟨.non, H, I, rfl, h⟩
theorem pe_str {x j pos} : PE X (.Constant (.str x) j pos) (tC (.str x)) := fun _ _ _ H _ I h => Calls.Constant_str ⟨.str x, H, I.tok _, ⟨_, rfl⟩, h⟩
noncomputable def Gl (X : Cx) (x : Str) : Prop := X.env.kindOf x = some .globalImplicit
theorem ld_glob {E : Value → Shared → Prop} {pins : List (Addr × Obj)} {s : Shared} {σ : St} {H : Hp} {x : Str} {u : Value} {pos : Pos} {Q : Value → Shared → Prop} (I : Inv X pins σ H s) (hg : Gl X x) (hm : X.mg x = some u) (h : Q u s)
    (hd : (x == ("__debug__" : Str)) = false := by decide) : wpAny (model X.prog X.w) X.A (eval (.Name x pos) X.env) Q E s :=
  Calls.Name_function_global I.ok.kind hg (Calls.loadGlobal_global (by rw [I.ok.glob]; exact I.mod.glob.keeps I.bk) hm h) hd
theorem ld_blt {E : Value → Shared → Prop} {pins : List (Addr × Obj)} {s : Shared} {σ : St} {H : Hp} {x : Str} {u : Value} {pos : Pos} {Q : Value → Shared → Prop} (I : Inv X pins σ H s) (hg : Gl X x) (hm : X.mg x = none) (hv : bootBuiltins x = some u) (h : Q u s)
    (hn : x ≠ "__name__" := by decide) (hd : (x == ("__debug__" : Str)) = false := by decide) : wpAny (model X.prog X.w) X.A (eval (.Name x pos) X.env) Q E s := by
  obtain ⟨mb, h1, h2⟩ := I.mod.blt
  exact Calls.Name_function_global I.ok.kind hg (Calls.loadGlobal_builtin (by rw [I.ok.glob]; exact I.mod.glob.keeps I.bk) hm (by rw [I.ok.blt]; exact h1.keeps I.bk) ((h2 x hn).trans hv) h) hd
theorem pe_glob {x : Str} {v : V} {u : Value} {pos : Pos} (hg : Gl X x) (hm : X.mg x = some u) (r : RelV v u) (hd : (x == ("__debug__" : Str)) = false := by decide) : PE X (.Name x pos) (tC v) :=
  fun _ _ _ H _ I h => ld_glob I hg hm ⟨v, H, I, r, h⟩ hd
theorem pe_bltn {x : Str} {v : V} {u : Value} {pos : Pos} (hg : Gl X x) (hm : X.mg x = none) (hv : bootBuiltins x = some u) (r : RelV v u) (hn : x ≠ "__name__" := by decide) (hd : (x == ("__debug__" : Str)) = false := by decide) : PE X (.Name x pos) (tC v) :=
  fun _ _ _ H _ I h => ld_blt I hg hm hv ⟨v, H, I, r, h⟩ hn hd
variable {a b : Expr} {ta tb : TE} {pos : Pos}
noncomputable def PC (X : Cx) (op : CmpOp) (a b : Expr) (t : TE) : Prop :=
  ∀ (pins : List (Addr × Obj)) (s : Shared) (σ : St) (H : Hp) (Q : VK), Inv X pins σ H s → t σ H Q →
    wpAny (model X.prog X.w) X.A (eval a X.env) (fun v s₁ => wpAny (model X.prog X.w) X.A (eval b X.env) (fun u s₂ => wpAny (model X.prog X.w) X.A (compareOp op v u) (EP X pins σ Q) X.xe s₂) X.xe s₁) X.xe s
theorem nobehind (b : Expr) {op : CmpOp} (h : op ≠ .In) (h2 : op ≠ .NotIn) : behindInMarks op b = false := by
  have e1 : (op == CmpOp.In) = false := by cases op <;> first | rfl | exact absurd rfl h
  have e2 : (op == CmpOp.NotIn) = false := by cases op <;> first | rfl | exact absurd rfl h2
  cases b <;> simp [behindInMarks, e1, e2]
noncomputable def tNotN (ta : TE) : TE := fun σ H Q => ta σ H fun x H1 => Q (.bl (!decide (x = .non))) H1
theorem RelV.none_iff {x : V} {v : Value} (r : RelV x v) : (v == Value.none) = decide (x = .non) := by
  cases x with
  | non => cases r; rfl
  | bl _ => cases r; rfl
  | int _ => obtain ⟨t, rfl⟩ := r; rfl
  | str _ => obtain ⟨t, rfl⟩ := r; rfl
  | byt _ => obtain ⟨t, rfl⟩ := r; rfl
  | flt _ => obtain ⟨t, rfl⟩ := r; rfl
  | ref _ => cases r; rfl
  | ty _ => cases r; rfl
theorem pc_notN {j pos'} (ha : PE X a ta) : PC X .IsNot a (.Constant .none j pos') (tNotN ta) := by
  intro pins s σ H Q I h
  refine thn (ha pins s σ H _ I h) fun v s1 ⟨x, H1, I1, r1, q1⟩ => ?_
  exact Constant_none (isnot_none_gen ⟨.bl _, H1, I1, by rw [r1.none_iff]; rfl, q1⟩)
noncomputable def tB (t : TE) : TT := fun σ H Q => t σ H fun x H1 => ∃ c, x = .bl c ∧ Q c H1
theorem pt_cmp {op : CmpOp} {t : TE} (h : PC X op a b t) (h1 : behindInMarks op b = false := by first | exact nobehind _ (by decide) (by decide) | rfl) : PT X (.Compare a [op] [b] pos) (tB t) := by
  intro pins s σ H Q I hw
  refine wpAny_isTrue_Compare1 (thn (h pins s σ H _ I hw) fun v s1 h1 => thn h1 fun u s2 h2 => thn h2 fun c s3 ⟨x, H1, I1, r1, q1⟩ => ?_) h1
  obtain ⟨d, rfl, q⟩ := q1
  cases r1
  exact wpAny_truthy_bool ⟨H1, I1, q⟩
variable {tA tB' : TT} {rest : List Expr}
noncomputable def tAnd (t u : TT) : TT := fun σ H Q => t σ H fun c H1 => if c = true then u σ H1 Q else Q false H1
noncomputable def tOr (t u : TT) : TT := fun σ H Q => t σ H fun c H1 => if c = true then Q true H1 else u σ H1 Q
noncomputable def tNot (t : TT) : TT := fun σ H Q => t σ H fun c H1 => Q (!c) H1
theorem pw_and1 (ha : PT X a tA) : PW X (.BoolOp .And [a] pos) tA := by
  intro wh pins s σ H Q I h
  refine isTrue_and (thn (ha pins s σ H Q I h) fun c s1 e => ?_)
  cases c with
  | true => exact isTrue_and_nil e
  | false => exact e
theorem pw_or1 (ha : PT X a tA) : PW X (.BoolOp .Or [a] pos) tA := by
  intro wh pins s σ H Q I h
  refine isTrue_or (thn (ha pins s σ H Q I h) fun c s1 e => ?_)
  cases c with
  | false => exact isTrue_or_nil e
  | true => exact e
theorem pw_and (ha : PT X a tA) (hb : PW X (.BoolOp .And (b :: rest) pos) tB') : PW X (.BoolOp .And (a :: b :: rest) pos) (tAnd tA tB') := by
  intro wh pins s σ H Q I h
  refine isTrue_and (thn (ha pins s σ H _ I h) fun c s1 ⟨H1, I1, q1⟩ => ?_)
  cases c with
  | true => exact hb wh pins s1 σ H1 Q I1 q1
  | false => exact ⟨H1, I1, q1⟩
theorem pw_or (ha : PT X a tA) (hb : PW X (.BoolOp .Or (b :: rest) pos) tB') : PW X (.BoolOp .Or (a :: b :: rest) pos) (tOr tA tB') := by
  intro wh pins s σ H Q I h
  refine isTrue_or (thn (ha pins s σ H _ I h) fun c s1 ⟨H1, I1, q1⟩ => ?_)
  cases c with
  | true => exact ⟨H1, I1, q1⟩
  | false => exact hb wh pins s1 σ H1 Q I1 q1
theorem pt_not (ha : PT X a tA) : PT X (.UnaryOp .Not a pos) (tNot tA) := by
  intro pins s σ H Q I h
  exact isTrue_not (ha pins s σ H (fun c H1 => Q (!c) H1) I h)
theorem pe_one {op} {t : TE} (h : PE X a t) : PE X (.BoolOp op [a] pos) t := fun pins s σ H Q I hw => BoolOp_one (h pins s σ H Q I hw)
end
end L2
namespace L2
open PySem PySem.Spec PyProof.Rows
noncomputable def SqL (K : PySem.W.Frag) (H : Hp) (a : Addr) (xs : List V) : Prop :=
  Rd H a (.lst xs) ∨
    ∃ (o : Obj) (its : Array Value) (n : Nat), K.lookup a = some o ∧ o.cls = .type "list" ∧ o.dict = none ∧ o.data = .seq its n ∧ its.size ≤ sizeLine ∧ Vals xs its.toList
noncomputable def SqT (K : PySem.W.Frag) (H : Hp) (a : Addr) (xs : List V) : Prop :=
  Rd H a (.tup xs) ∨
    ∃ (o : Obj) (its : Array Value) (n : Nat), K.lookup a = some o ∧ o.cls = .type "tuple" ∧ o.data = .seq its n ∧ its.size ≤ sizeLine ∧ Vals xs its.toList
noncomputable def absV : Value → Option V
  | .none => some .non
  | .bool b => some (.bl b)
  | .int i _ => some (.int i)
  | .str x _ => some (.str x)
  | .bytes b _ => some (.byt b)
  | .float b _ => some (.flt b)
  | .ref a => some (.ref a)
  | .type n => some (.ty n)
  | _ => none
theorem RelV.abs {x : V} {u : Value} (r : RelV x u) : absV u = some x := by
  cases x with
  | non => cases r; rfl
  | bl _ => cases r; rfl
  | int _ => obtain ⟨t, rfl⟩ := r; rfl
  | str _ => obtain ⟨t, rfl⟩ := r; rfl
  | byt _ => obtain ⟨t, rfl⟩ := r; rfl
  | flt _ => obtain ⟨t, rfl⟩ := r; rfl
  | ref _ => cases r; rfl
  | ty _ => cases r; rfl
theorem RelV.inj {x y : V} {u : Value} (r : RelV x u) (q : RelV y u) : x = y := Option.some.inj (r.abs.symm.trans q.abs)
theorem Vals.inj : ∀ {xs ys : List V} {us : List Value}, Vals xs us → Vals ys us → xs = ys
  | _, _, _, .nil, .nil => rfl
  | _, _, _, .cons r t, .cons r' t' => by rw [r.inj r', Vals.inj t t']
section
variable {X : Cx} {pins : List (Addr × Obj)} {σ : St} {H : Hp} {s : Shared} {a : Addr} {xs ys : List V}
theorem SqL.of {K : PySem.W.Frag} (h : H a = some (.lst xs)) : SqL K H a xs := .inl (.inl h)
theorem SqT.of {K : PySem.W.Frag} (h : H a = some (.tup xs)) : SqT K H a xs := .inl (.inl h)
theorem Inv.list (I : Inv X pins σ H s) (h : SqL X.K H a xs) : ∃ its : List Value, Vals xs its ∧ PlainL s.heap a its.toArray ∧ xs.length ≤ sizeLine := by
  rcases h with h | ⟨o, its, n, hk, hc, hd, hs, hz, r⟩
  · obtain ⟨z, its, n, r, e⟩ := h.ok I.hok
    exact ⟨its, r, ⟨_, n, e, rfl, rfl, rfl⟩, z⟩
  · refine ⟨its.toList, r, ⟨o, n, I.kIn a o hk, hc, hd, by simpa using hs⟩, ?_⟩
    have e := r.length
    simp only [Array.length_toList] at e
    omega
theorem Inv.tuple (I : Inv X pins σ H s) (h : SqT X.K H a xs) : ∃ its : List Value, Vals xs its ∧ IsTup s.heap a its.toArray ∧ xs.length ≤ sizeLine := by
  rcases h with h | ⟨o, its, n, hk, hc, hs, hz, r⟩
  · obtain ⟨z, its, r, p⟩ := h.ok I.hok
    exact ⟨its, r, p, z⟩
  · refine ⟨its.toList, r, ⟨o, I.kIn a o hk, hc, n, by simpa using hs⟩, ?_⟩
    have e := r.length
    simp only [Array.length_toList] at e
    omega
theorem Inv.list_inj (I : Inv X pins σ H s) (h : SqL X.K H a xs) (h' : SqL X.K H a ys) : xs = ys := by
  obtain ⟨its, r, ⟨o, n, e, _, _, d⟩, _⟩ := I.list h
  obtain ⟨its', r', ⟨o', n', e', _, _, d'⟩, _⟩ := I.list h'
  rw [e] at e'; cases e'
  rw [d] at d'
  injection d' with d1 _
  have : its = its' := by simpa using congrArg Array.toList d1
  subst this
  exact r.inj r'
theorem Inv.tuple_inj (I : Inv X pins σ H s) (h : SqT X.K H a xs) (h' : SqT X.K H a ys) : xs = ys := by
  obtain ⟨its, r, ⟨o, e, _, n, d⟩, _⟩ := I.tuple h
  obtain ⟨its', r', ⟨o', e', _, n', d'⟩, _⟩ := I.tuple h'
  rw [e] at e'; cases e'
  rw [d] at d'
  injection d' with d1 _
  have : its = its' := by simpa using congrArg Array.toList d1
  subst this
  exact r.inj r'
end
noncomputable abbrev Cx.wish (X : Cx) (E : Value → Shared → Prop) : Cx := { X with xe := E }
noncomputable abbrev Cx.nox (X : Cx) : Cx := X.wish fun _ _ => False
theorem Cx.Ok.wish {X : Cx} (ok : X.Ok) (E : Value → Shared → Prop) : (X.wish E).Ok :=
  ⟨ok.mod, ok.kind, ok.glob, ok.blt, ok.above, ok.inj, ok.has, ok.cab, ok.hd, ok.frames, ok.stk, ok.exf, ok.bs, ok.bsz, ok.noex, ok.exfs, ok.funs, ok.frf⟩
theorem Cx.Ok.unwish {X : Cx} {E : Value → Shared → Prop} (ok : (X.wish E).Ok) : X.Ok :=
  ⟨ok.mod, ok.kind, ok.glob, ok.blt, ok.above, ok.inj, ok.has, ok.cab, ok.hd, ok.frames, ok.stk, ok.exf, ok.bs, ok.bsz, ok.noex, ok.exfs, ok.funs, ok.frf⟩
section
variable {X : Cx} {pins : List (Addr × Obj)} {σ : St} {H : Hp} {s : Shared} {E : Value → Shared → Prop}
theorem Inv.wish (I : Inv X pins σ H s) (E : Value → Shared → Prop) : Inv (X.wish E) pins σ H s := ⟨I.ok.wish E, I.os, I.bare, I.base, I.loc, I.cell, I.free, I.freeC, I.pin, I.hok, I.len⟩
theorem Inv.unwish (I : Inv (X.wish E) pins σ H s) : Inv X pins σ H s := ⟨I.ok.unwish, I.os, I.bare, I.base, I.loc, I.cell, I.free, I.freeC, I.pin, I.hok, I.len⟩
theorem SP.unwish {D : Ends} {f : Flow} {s' : Shared} (h : SP (X.wish E) pins D f s') : SP X pins D f s' := by
  cases f with
  | next => obtain ⟨σ', H', I, q⟩ := h; exact ⟨σ', H', I.unwish, q⟩
  | brk => obtain ⟨σ', H', I, q⟩ := h; exact ⟨σ', H', I.unwish, q⟩
  | cont => obtain ⟨σ', H', I, q⟩ := h; exact ⟨σ', H', I.unwish, q⟩
  | ret u => obtain ⟨v, σ', H', I, r, q⟩ := h; exact ⟨v, σ', H', I.unwish, r, q⟩
theorem PSs.nox {st : List Stmt} {t : TS} (h : PSs X.nox st t) : PSs X st t := fun pins s σ H D I hw =>
  wpAny_mono (h pins s σ H D (I.wish _) hw) (fun _ _ q => q.unwish) fun _ _ z => False.elim z
end
section
variable {X : Cx} {st : Stmt} {rest : List Stmt} {t u : TS} {e : Expr} {te : TE} {pos : Pos}
noncomputable def tNext : TS := fun D σ H => D.nx σ H
noncomputable def tSeq (t u : TS) : TS := fun D σ H => t { D with nx := u D } σ H
theorem pss_nil : PSs X [] tNext := fun _ _ σ H _ I h => wpAny_execs_nil ⟨σ, H, I, h⟩
theorem pss_cons (h1 : PS X st t) (h2 : PSs X rest u) : PSs X (st :: rest) (tSeq t u) := by
  intro pins s σ H D I h
  refine wpAny_execs_cons (thn (h1 pins s σ H { D with nx := u D } I h) fun f s1 q => ?_)
  cases f with
  | next =>
    obtain ⟨σ', H', I', q⟩ := q
    exact h2 pins s1 σ' H' D I' q
  | ret v => exact q
  | brk => exact q
  | cont => exact q
theorem pss_one (h1 : PS X st t) : PSs X [st] t := by
  intro pins s σ H D I h
  refine wpAny_execs_cons (thn (h1 pins s σ H D I h) fun f s1 q => ?_)
  cases f with
  | next => exact wpAny_execs_nil q
  | ret v => exact q
  | brk => exact q
  | cont => exact q
theorem Inv.quiet {pins : List (Addr × Obj)} {σ : St} {H : Hp} {s : Shared} (I : Inv X pins σ H s) : interactive X.env = false := by simp [interactive, I.ok.kind]
noncomputable def tDrop (te : TE) : TS := fun D σ H => te σ H fun _ H1 => D.nx σ H1
theorem ps_expr (he : PE X e te) (hs : swapsWith e none pos.line X.env = pure false := by rfl) : PS X (.Expr e pos) (tDrop te) := by
  intro pins s σ H D I h
  exact wpAny_Expr_any (thn (he pins s σ H _ I h) fun v s1 ⟨x, H1, I1, r1, q1⟩ => ⟨σ, H1, I1, q1⟩) I.quiet hs
noncomputable def tRet (te : TE) : TS := fun D σ H => te σ H D.rt
theorem ps_ret (he : PE X e te) : PS X (.Return (some e) pos) (tRet te) := by
  intro pins s σ H D I h
  exact wpAny_Return_some (thn (he pins s σ H _ I h) fun v s1 ⟨x, H1, I1, r1, q1⟩ => ⟨x, σ, H1, I1, r1, q1⟩)
noncomputable def tIfS (c : TT) (t u : TS) : TS := fun D σ H => c σ H fun b H1 => if b = true then t D σ H1 else u D σ H1
theorem ps_if {c : Expr} {a b : List Stmt} {tc : TT} (hc : PT X c tc) (ha : PSs X a t) (hb : PSs X b u) : PS X (.If c a b pos) (tIfS tc t u) := by
  intro pins s σ H D I h
  refine wpAny_If (thn (hc pins s σ H _ I h) fun d s1 ⟨H1, I1, q1⟩ => ?_)
  cases d with
  | true => exact ha pins s1 σ H1 D I1 q1
  | false => exact hb pins s1 σ H1 D I1 q1
end
noncomputable abbrev TG := V → St → Hp → (St → Hp → Prop) → Prop
noncomputable abbrev TGs := List V → St → Hp → (St → Hp → Prop) → Prop
noncomputable def PG (X : Cx) (target : Expr) (t : TG) : Prop :=
  ∀ (pins : List (Addr × Obj)) (s : Shared) (σ : St) (H : Hp) (v : V) (u : Value) (Q : St → Hp → Prop), Inv X pins σ H s → RelV v u → t v σ H Q →
    wpAny (model X.prog X.w) X.A (assign target X.env u) (fun _ s' => ∃ σ' H', Inv X pins σ' H' s' ∧ Q σ' H') X.xe s
noncomputable def PGs (X : Cx) (ts : List Expr) (t : TGs) : Prop :=
  ∀ (pins : List (Addr × Obj)) (s : Shared) (σ : St) (H : Hp) (vs : List V) (us : List Value) (Q : St → Hp → Prop), Inv X pins σ H s → Vals vs us → t vs σ H Q →
    wpAny (model X.prog X.w) X.A (assignInOrder ((assignEach ts X.env).map (·.2)) us) (fun _ s' => ∃ σ' H', Inv X pins σ' H' s' ∧ Q σ' H') X.xe s
noncomputable abbrev TSet := V → V → V → Hp → (Hp → Prop) → Prop
noncomputable def PSet (X : Cx) (t : TSet) : Prop :=
  ∀ (pins : List (Addr × Obj)) (s : Shared) (σ : St) (H : Hp) (o i v : V) (ov iv u : Value) (Q : Hp → Prop), Inv X pins σ H s → RelV o ov → RelV i iv → RelV v u → t o i v H Q →
    wpAny (model X.prog X.w) X.A (setItem ov iv u) (fun _ s' => ∃ H', Inv X pins σ H' s' ∧ Q H') X.xe s
section
variable {X : Cx} {pos : Pos}
noncomputable def gName (i : Nat) : TG := fun v σ H Q => Q (σ.set i (some v)) H
theorem pg_name {i : Nat} {x : Str} (hN : X.N.Nodup) (hi : X.N[i]? = some x) (hx : Loc X.env.scope x) (hf : X.fn x = true ∨ X.env.scope.names.lookup x = some .local := by first | exact .inl rfl | exact .inr rfl | assumption) : PG X (.Name x pos) (gName i) := by
  intro pins s σ H v u Q I r h
  exact wpAny_assign_Name (store_ok I hN hi hx r (fun s' I' => ⟨_, H, I', h⟩) hf)
noncomputable def gNil : TGs := fun vs σ H Q => vs = [] ∧ Q σ H
noncomputable def gCons (t : TG) (u : TGs) : TGs := fun vs σ H Q => ∃ v r, vs = v :: r ∧ t v σ H fun σ' H' => u r σ' H' Q
theorem pgs_nil : PGs X [] gNil := by
  intro pins s σ H vs us Q I r h
  obtain ⟨e, h⟩ := h
  subst e
  cases r
  exact assignInOrder_nil ⟨σ, H, I, h⟩
theorem pgs_cons {e : Expr} {es : List Expr} {t : TG} {u : TGs} (h1 : PG X e t) (h2 : PGs X es u)
    (hs : (assignEach (e :: es) X.env).map (·.2) = assign e X.env :: (assignEach es X.env).map (·.2) := by rfl) : PGs X (e :: es) (gCons t u) := by
  intro pins s σ H vs us Q I r h
  obtain ⟨v, vr, e1, h⟩ := h
  subst e1
  cases r with
  | cons r rr =>
    rw [hs]
    refine assignInOrder_cons (thn (h1 pins s σ H _ _ _ I r h) fun _ s1 ⟨σ1, H1, I1, q1⟩ => ?_)
    exact h2 pins s1 σ1 H1 _ _ Q I1 rr q1
noncomputable def gTup (K : PySem.W.Frag) (n : Nat) (t : TGs) : TG := fun v σ H Q => ∃ a xs, v = .ref a ∧ SqT K H a xs ∧ xs.length = n ∧ t xs σ H Q
theorem pg_tup {es : List Expr} {k : Nat} {t : TGs} {n : Nat} (hc : X.calm = true) (h : PGs X es t)
    (hn : (assignEach es X.env).length = n := by rfl) (hst : (assignEach es X.env).findIdx? (·.1) = none := by rfl) : PG X (.Tuple es k pos) (gTup X.K n t) := by
  intro pins s σ H v u Q I r hw
  obtain ⟨a, xs, e1, hq, hl, hw⟩ := hw
  subst e1
  cases r
  obtain ⟨its, rv, ht, hz⟩ := I.tuple hq
  refine assign_Tuple_tuple (I.ok.hd hc) ht (by simp [hn, ← hl, rv.length]) hst fun h' hx => ?_
  have I1 : Inv X pins σ H { s with heap := h' } := I.kept (t' := s.toks) fun b o e => hx b o (Nat.ne_of_lt (Heap.lt_size e)) e
  exact h pins _ σ H xs _ Q I1 (by simpa using rv) hw
noncomputable def gSub (to ti : TE) (t : TSet) : TG := fun v σ H Q => to σ H fun o H1 => ti σ H1 fun i H2 => t o i v H2 fun H3 => Q σ H3
theorem pg_sub {o i : Expr} {to ti : TE} {t : TSet} (ho : PE X o to) (hi : PE X i ti) (hs : PSet X t)
    (ha : ∀ v, assign (.Subscript o i pos) X.env v = (do
      let ov ← holding [v] (eval o X.env)
      let iv ← holding [v, ov] (eval i X.env)
      standAt pos
      holding [v, ov, iv] (setItem ov iv v)
      release [v, ov, iv] []) := by intro _; rfl) : PG X (.Subscript o i pos) (gSub to ti t) := by
  intro pins s σ H v u Q I r h
  rw [ha]
  refine wpAny_bind (wpAny_holding (thn (ho pins s σ H _ I h) fun ov s1 ⟨x, H1, I1, r1, q1⟩ => ?_))
  refine wpAny_bind (wpAny_holding (thn (hi pins s1 σ H1 _ I1 q1) fun iv s2 ⟨y, H2, I2, r2, q2⟩ => ?_))
  refine wpAny_bind (wpAny_standAt (wpAny_bind (wpAny_holding (thn (hs pins s2 σ H2 x y v ov iv u _ I2 r1 r2 r q2) fun _ s3 ⟨H3, I3, q3⟩ => ?_))))
  exact wpAny_release ⟨σ, H3, I3, q3⟩
noncomputable def tAsg (te : TE) (g : TG) : TS := fun D σ H => te σ H fun x H1 => g x σ H1 D.nx
theorem ps_asg {tg e : Expr} {te : TE} {g : TG} (he : PE X e te) (hg : PG X tg g) (hs : swapsWithSole [tg] e pos.line X.env = pure false := by rfl) (hw : swappedStores [tg] e X.env = pure none := by rfl)
    (h1 : (assignEach [tg] X.env).map (·.2) = [assign tg X.env] := by rfl) : PS X (.Assign [tg] e pos) (tAsg te g) := by
  intro pins s σ H D I h
  refine wpAny_Assign_stores (thn (he pins s σ H _ I h) fun v s1 ⟨x, H1, I1, r1, q1⟩ => ?_) hs hw
  rw [h1]
  exact thn (hg pins s1 σ H1 x v _ I1 r1 q1) fun _ s2 q => q
theorem ps_set {i : Nat} {x : Str} {e : Expr} {te : TE} {pos' : Pos} (hN : X.N.Nodup) (hi : X.N[i]? = some x) (hx : Loc X.env.scope x) (he : PE X e te) (hs : swapsWith e (some (.Name x pos')) pos.line X.env = pure false := by rfl) (hf : X.fn x = true ∨ X.env.scope.names.lookup x = some .local := by first | exact .inl rfl | exact .inr rfl | assumption) :
    PS X (.Assign [.Name x pos'] e pos) (tAsg te (gName i)) := by
  intro pins s σ H D I h
  refine wpAny_Assign_Name (thn (he pins s σ H _ I h) fun v s1 ⟨y, H1, I1, r1, q1⟩ => ?_) hs
  exact store_ok I1 hN hi hx r1 (fun s2 I2 => ⟨_, H1, I2, q1⟩) hf
end
section
variable {X : Cx} {pos : Pos}
end
structure It where
  go : Nat → Hp → Prop
  yld : Nat → Hp → V → Hp → Prop
  stop : Nat → Hp → Prop
noncomputable def FpOk (X : Cx) (pins : List (Addr × Obj)) (H : Hp) (b : Addr) : Prop :=
  H b = none ∧ b ≠ X.env.locals ∧ b ∉ X.fs ∧ (b ∈ X.ex ∨ X.s₀.heap.objs.size ≤ b) ∧ (∀ x c, X.env.cells.lookup x = some c → c ≠ b) ∧ ∀ p ∈ X.pn ++ pins, p.1 ≠ b
theorem Inv.fpOk {X : Cx} {pins : List (Addr × Obj)} {σ : St} {H H' : Hp} {s : Shared} {b : Addr} (I : Inv X pins σ H s) (hb : s.heap.objs.size ≤ b) (hn : H' b = none) : FpOk X pins H' b := by
  refine ⟨hn, Nat.ne_of_gt (Nat.lt_of_lt_of_le I.lt hb), I.nofs hb, .inr (Nat.le_trans I.sz hb), fun x c e z => ?_, fun p hp z => ?_⟩
  · obtain ⟨v, q⟩ := I.cell x c e
    exact absurd (Nat.lt_of_lt_of_le q.lt (by rw [z]; exact hb)) (Nat.lt_irrefl _)
  · exact absurd (Nat.lt_of_lt_of_le (Heap.lt_size (I.pin p hp).1) (by rw [z]; exact hb)) (Nat.lt_irrefl _)
structure Turn (P : Program) (w : World) (K : PySem.W.Frag) (tg : Expr) (J : It) (fp : List Addr) (it : Addr) (tn : Nat → Heap → Prop) : Prop where
  mem : it ∈ fp
  obj : ∀ i h, tn i h → ∀ b ∈ fp, ∃ o, h.get? b = some o ∧ ∀ v, o.data ≠ .cell v
  keep : ∀ i h h', tn i h → (∀ b ∈ fp, ∀ o, h.get? b = some o → h'.get? b = some o) → tn i h'
  item : ∀ (X : Cx), X.prog = P → X.w = w → X.K = K → X.calm = true → ∀ (i : Nat) (pins : List (Addr × Obj)) (s : Shared) (σ : St) (H : Hp) (E : Value → Shared → Prop), Inv X pins σ H s → (∀ b ∈ fp, FpOk X pins H b) → tn i s.heap → J.go i H →
    wpAny (model P w) X.A (pyNext (.ref it)) (fun r s1 => ∃ u, r = some u ∧
      wpAny (model P w) X.A (letOwnedTupleGo tg (.ref it) u) (fun _ s2 => ∃ x H', Inv X pins σ H' s2 ∧ RelV x u ∧ J.yld i H x H' ∧ tn (i + 1) s2.heap ∧ ∀ b ∈ fp, H' b = none) E s1) E s
  done : ∀ (X : Cx), X.prog = P → X.w = w → X.K = K → X.calm = true → ∀ (i : Nat) (pins : List (Addr × Obj)) (s : Shared) (σ : St) (H : Hp) (E : Value → Shared → Prop), Inv X pins σ H s → (∀ b ∈ fp, FpOk X pins H b) → tn i s.heap → J.stop i H →
    wpAny (model P w) X.A (pyNext (.ref it)) (fun r s1 => r = none ∧ Inv X pins σ H s1) E s
  self : ∀ (A : Around) (i : Nat) (s : Shared) (Q : Value → Shared → Prop) (E : Value → Shared → Prop), tn i s.heap → Q (.ref it) s → wpAny (model P w) A (pyIter (.ref it)) Q E s
noncomputable abbrev TI := St → Hp → (It → Hp → Prop) → Prop
noncomputable def PIE (X : Cx) (pins : List (Addr × Obj)) (σ : St) (tg : Expr) (R : It → Hp → Prop) (itv : Value) (s2 : Shared) : Prop :=
  ∃ (it : Addr) (fp : List Addr) (tn : Nat → Heap → Prop) (J : It) (H' : Hp), itv = .ref it ∧ Inv X pins σ H' s2 ∧ Turn X.prog X.w X.K tg J fp it tn ∧ tn 0 s2.heap ∧ (∀ b ∈ fp, FpOk X pins H' b) ∧ R J H'
noncomputable def PI (X : Cx) (tg iter : Expr) (wi : TI) : Prop :=
  ∀ (pins : List (Addr × Obj)) (s : Shared) (σ : St) (H : Hp) (R : It → Hp → Prop), Inv X pins σ H s → wi σ H R →
    wpAny (model X.prog X.w) X.A (eval iter X.env) (fun v s1 => wpAny (model X.prog X.w) X.A (pyIter v) (PIE X pins σ tg R) X.xe s1) X.xe s
theorem go_of {M : Model} {A : Around} {E : Value → Shared → Prop} {s : Shared} {tg : Expr} {it : Addr} {u : Value} {o : Obj} {n : String} {vs : Array Value} {Q : Unit → Shared → Prop} (ho : s.heap.get? it = some o) (hc : o.cls = .type n) (hd : o.data = .fields vs)
    (hn : ["enumerate", "zip", "dict_itemiterator", "dict_reverseitemiterator", "odict_iterator", "itertools.zip_longest", "itertools.pairwise"].contains n = false) (hQ : Q () s) : wpAny M A (letOwnedTupleGo tg (.ref it) u) Q E s := by
  unfold letOwnedTupleGo
  cases tg <;> first
    | exact wpAny_pure hQ
    | (cases u <;> first
        | exact wpAny_pure hQ
        | (refine wpAny_bind (wpAny_load ho ?_)
           rw [hc, hd]
           show wpAny M A (if (["enumerate", "zip", "dict_itemiterator", "dict_reverseitemiterator", "odict_iterator", "itertools.zip_longest", "itertools.pairwise"].contains n && vs[0]? == some (rawInt _)) = true then _ else _) Q E s
           rw [if_neg (by intro h; rw [hn, Bool.false_and] at h; cases h)]
           exact wpAny_pure hQ))
noncomputable def Itl (K : PySem.W.Frag) (a : Addr) : It :=
  ⟨fun i H => ∃ xs x, SqL K H a xs ∧ xs[i]? = some x, fun i H x H' => H' = H ∧ ∀ xs, SqL K H a xs → xs[i]? = some x, fun i H => ∃ xs, SqL K H a xs ∧ xs.length ≤ i⟩
noncomputable def Itt (K : PySem.W.Frag) (a : Addr) : It :=
  ⟨fun i H => ∃ xs x, SqT K H a xs ∧ xs[i]? = some x, fun i H x H' => H' = H ∧ ∀ xs, SqT K H a xs → xs[i]? = some x, fun i H => ∃ xs, SqT K H a xs ∧ xs.length ≤ i⟩
noncomputable def Itr (lo : Int) (n : Nat) : It := ⟨fun i _ => i < n, fun i H x H' => H' = H ∧ x = .int (lo + i), fun i _ => n ≤ i⟩
theorem turn_list {P : Program} {w : World} {K : PySem.W.Frag} {tg : Expr} (a it : Addr) : Turn P w K tg (Itl K a) [it] it (fun i h => h.IsListIter it a i) where
  mem := by simp
  obj := fun i h st b hb => by
    have e : b = it := by simpa using hb
    subst e
    obtain ⟨o, e, c, d⟩ := st
    exact ⟨o, e, fun v z => by rw [d] at z; cases z⟩
  keep := fun i h h' st k => st.at fun o e => k it (by simp) o e
  item := by
    intro X hP hw hK hc i pins s σ H E I hf st hg
    subst hP hw hK
    obtain ⟨xs, x, hq, hx⟩ := hg
    obtain ⟨its, rv, p, hz⟩ := I.list hq
    obtain ⟨u, hu, ru⟩ := rv.get hx
    obtain ⟨f0, f1, f2, f3, f4, f5⟩ := hf it (by simp)
    refine wpAny_pyNext_list_item st p.isList (x := u) (by simpa using hu) fun h' st' sb => ?_
    have I1 : Inv X pins σ H { s with heap := h' } := I.turned (t' := s.toks) (fun b o hb e => (sb.2 b hb).trans e) f0 f1 f3 f4 f5
    obtain ⟨o, e, c, d⟩ := id st'
    exact ⟨u, rfl, go_of (s := { s with heap := h' }) e c d (by decide) ⟨x, H, I1, ru, ⟨rfl, fun ys hy => by rw [I.list_inj hy hq]; exact hx⟩, st', fun b hb => (hf b hb).1⟩⟩
  done := by
    intro X hP hw hK hc i pins s σ H E I hf st hg
    subst hP hw hK
    obtain ⟨xs, hq, hx⟩ := hg
    obtain ⟨its, rv, p, hz⟩ := I.list hq
    obtain ⟨f0, f1, f2, f3, f4, f5⟩ := hf it (by simp)
    have hl := rv.length
    exact wpAny_pyNext_list_end (I.ok.hd hc) st p.isList (by simp; omega) fun h' eb => ⟨rfl, I.turned (t' := s.toks) (fun b o hb e => eb b o hb e) f0 f1 f3 f4 f5⟩
  self := fun _ _ _ _ _ st h => wpAny_pyIter_listiter st h
theorem turn_tuple {P : Program} {w : World} {K : PySem.W.Frag} {tg : Expr} (a it : Addr) : Turn P w K tg (Itt K a) [it] it (fun i h => h.IsTupleIter it a i) where
  mem := by simp
  obj := fun i h st b hb => by
    have e : b = it := by simpa using hb
    subst e
    obtain ⟨o, e, c, d⟩ := st
    exact ⟨o, e, fun v z => by rw [d] at z; cases z⟩
  keep := fun i h h' st k => st.at fun o e => k it (by simp) o e
  item := by
    intro X hP hw hK hc i pins s σ H E I hf st hg
    subst hP hw hK
    obtain ⟨xs, x, hq, hx⟩ := hg
    obtain ⟨its, rv, p, hz⟩ := I.tuple hq
    obtain ⟨u, hu, ru⟩ := rv.get hx
    obtain ⟨f0, f1, f2, f3, f4, f5⟩ := hf it (by simp)
    refine wpAny_pyNext_tuple_item st (show s.heap.IsTuple a its.toArray from p) (x := u) (by simpa using hu) fun h' st' sb => ?_
    have I1 : Inv X pins σ H { s with heap := h' } := I.turned (t' := s.toks) (fun b o hb e => (sb.2 b hb).trans e) f0 f1 f3 f4 f5
    obtain ⟨o, e, c, d⟩ := id st'
    exact ⟨u, rfl, go_of (s := { s with heap := h' }) e c d (by decide) ⟨x, H, I1, ru, ⟨rfl, fun ys hy => by rw [I.tuple_inj hy hq]; exact hx⟩, st', fun b hb => (hf b hb).1⟩⟩
  done := by
    intro X hP hw hK hc i pins s σ H E I hf st hg
    subst hP hw hK
    obtain ⟨xs, hq, hx⟩ := hg
    obtain ⟨its, rv, p, hz⟩ := I.tuple hq
    obtain ⟨f0, f1, f2, f3, f4, f5⟩ := hf it (by simp)
    have hl := rv.length
    exact wpAny_pyNext_tuple_end (I.ok.hd hc) st (show s.heap.IsTuple a its.toArray from p) (by simp; omega) fun h' eb => ⟨rfl, I.turned (t' := s.toks) (fun b o hb e => eb b o hb e) f0 f1 f3 f4 f5⟩
  self := fun _ _ _ _ _ st h => wpAny_pyIter_tupleiter st h
theorem turn_range {P : Program} {w : World} {K : PySem.W.Frag} {tg : Expr} (it : Addr) (lo : Int) (n : Nat) : Turn P w K tg (Itr lo n) [it] it (fun i h => IsRangeIter h it (lo + (i : Nat) * 1) ((n : Int) - (i : Nat)) 1) where
  mem := by simp
  obj := fun i h st b hb => by
    have e : b = it := by simpa using hb
    subst e
    exact ⟨_, st, fun v z => by
      have z' : Data.fields _ = Data.cell v := z
      cases z'⟩
  keep := fun i h h' st k => k it (by simp) _ st
  item := by
    intro X hP hw hK hc i pins s σ H E I hf st hg
    subst hP hw hK
    obtain ⟨f0, f1, f2, f3, f4, f5⟩ := hf it (by simp)
    have W := Walks.range (prog := X.prog) (w := X.w) (I.ok.hd hc) it lo 1 n
    refine W.item i s _ _ hg st fun v h' tk hv st' kk => ?_
    obtain ⟨t, rfl⟩ := hv
    have I1 : Inv X pins σ H { s with heap := h', toks := tk } := I.turned (fun b o hb e => kk b o (by simpa using hb) e) f0 f1 f3 f4 f5
    refine ⟨_, rfl, go_of (s := { s with heap := h', toks := tk }) (n := "range_iterator") st' rfl rfl (by decide) ⟨.int (lo + i), H, I1, ⟨t, ?_⟩, ⟨rfl, rfl⟩, st', fun b hb => (hf b hb).1⟩⟩
    rw [Int.mul_one]
  done := by
    intro X hP hw hK hc i pins s σ H E I hf st hg
    subst hP hw hK
    obtain ⟨f0, f1, f2, f3, f4, f5⟩ := hf it (by simp)
    exact wpAny_pyNext_range_end (I.ok.hd hc) st (by have : n ≤ i := hg; omega) fun h' eb => ⟨rfl, I.turned (t' := s.toks) (fun b o hb e => eb b o hb e) f0 f1 f3 f4 f5⟩
  self := fun _ _ _ _ _ st h => wpAny_pyIter_rangeiter st h
end L2
namespace L2
open PySem PySem.Spec PyProof.Rows
section
variable {X : Cx} {tg : Expr}
noncomputable def iList (K : PySem.W.Frag) (tl : TE) : TI := fun σ H R => tl σ H fun x H1 => ∃ a, x = .ref a ∧ (∃ xs, SqL K H1 a xs) ∧ R (Itl K a) H1
noncomputable def iTup (K : PySem.W.Frag) (tl : TE) : TI := fun σ H R => tl σ H fun x H1 => ∃ a, x = .ref a ∧ (∃ xs, SqT K H1 a xs) ∧ R (Itt K a) H1
theorem pi_list {l : Expr} {tl : TE} (hl : PE X l tl) : PI X tg l (iList X.K tl) := by
  intro pins s σ H R I h
  refine thn (hl pins s σ H _ I h) fun v s1 ⟨x, H1, I1, r1, q1⟩ => ?_
  obtain ⟨a, e, ⟨xs, hq⟩, q⟩ := q1
  subst e
  cases r1
  obtain ⟨its, rv, p, hz⟩ := I1.list hq
  refine wpAny_pyIter_list p.isList ?_
  refine ⟨s1.heap.objs.size, [s1.heap.objs.size], _, _, H1, rfl, I1.kept (t' := s1.toks) fun b o e => Heap.get?_push_of_some _ e, turn_list a _, ⟨_, Heap.get?_push_size _ rfl, rfl, rfl⟩, fun b hb => ?_, q⟩
  have e : b = s1.heap.objs.size := by simpa using hb
  subst e
  exact I1.fpOk (Nat.le_refl _) (I1.hok.fresh (Nat.le_refl _))
theorem pi_tup {l : Expr} {tl : TE} (hl : PE X l tl) : PI X tg l (iTup X.K tl) := by
  intro pins s σ H R I h
  refine thn (hl pins s σ H _ I h) fun v s1 ⟨x, H1, I1, r1, q1⟩ => ?_
  obtain ⟨a, e, ⟨xs, hq⟩, q⟩ := q1
  subst e
  cases r1
  obtain ⟨its, rv, p, hz⟩ := I1.tuple hq
  refine wpAny_pyIter_tuple (show s1.heap.IsTuple a its.toArray from p) ?_
  refine ⟨s1.heap.objs.size, [s1.heap.objs.size], _, _, H1, rfl, I1.kept (t' := s1.toks) fun b o e => Heap.get?_push_of_some _ e, turn_tuple a _, ⟨_, Heap.get?_push_size _ rfl, rfl, rfl⟩, fun b hb => ?_, q⟩
  have e : b = s1.heap.objs.size := by simpa using hb
  subst e
  exact I1.fpOk (Nat.le_refl _) (I1.hok.fresh (Nat.le_refl _))
theorem range_it {pins : List (Addr × Obj)} {σ : St} {H : Hp} {s : Shared} {R : It → Hp → Prop} {E : Value → Shared → Prop} {lo hi : Int} {t u v : Tok} {tk : Nat} (I : Inv X pins σ H s) (h1 : -(2 ^ 62) ≤ lo) (h2 : lo < 2 ^ 62) (h3 : -(2 ^ 62) ≤ hi) (h4 : hi < 2 ^ 62)
    (q : R (Itr lo (hi - lo).toNat) H) : wpAny (model X.prog X.w) X.A (pyIter (.ref s.heap.objs.size)) (PIE X pins σ tg R) E { s with heap := s.heap.push { cls := .type "range", data := .fields #[.int lo t, .int hi u, .int 1 v] }, toks := tk } := by
  refine wpAny_pyIter_range (IsRange.new ..) (small_one h1 h2 h3 h4) ?_
  have I1 : Inv X pins σ H { s with heap := s.heap.push { cls := .type "range", data := .fields #[.int lo t, .int hi u, .int 1 v] }, toks := tk } := I.kept fun b o e => Heap.get?_push_of_some _ e
  refine ⟨(s.heap.push { cls := .type "range", data := .fields #[.int lo t, .int hi u, .int 1 v] }).objs.size, [(s.heap.push { cls := .type "range", data := .fields #[.int lo t, .int hi u, .int 1 v] }).objs.size], _, _, H, rfl,
    I1.kept (t' := tk) fun b o e => Heap.get?_push_of_some _ e, turn_range _ lo (hi - lo).toNat, ?_, fun b hb => ?_, q⟩
  · have e1 : lo + ((0 : Nat) : Int) * 1 = lo := by simp
    have e2 : (((hi - lo).toNat : Nat) : Int) - ((0 : Nat) : Int) = Builtin.Range.rangeSize lo hi 1 := by rw [rangeSize_one]; split <;> omega
    show IsRangeIter _ _ (lo + ((0 : Nat) : Int) * 1) ((((hi - lo).toNat : Nat) : Int) - ((0 : Nat) : Int)) 1
    rw [e1, e2]
    exact Heap.get?_push_size _ rfl
  · have e : b = (s.heap.push { cls := .type "range", data := .fields #[.int lo t, .int hi u, .int 1 v] }).objs.size := by simpa using hb
    subst e
    exact I1.fpOk (Nat.le_refl _) (I1.hok.fresh (Nat.le_refl _))
noncomputable def iRng1 (ta : TA) : TI := fun σ H R => ta σ H fun vs H1 => ∃ j : Int, vs = [.int j] ∧ -(2 ^ 62) ≤ j ∧ j < 2 ^ 62 ∧ R (Itr 0 j.toNat) H1
theorem pi_range1 {a : Expr} {ta : TA} {p pos : Pos} (hg : Gl X "range") (hm : X.mg "range" = none) (ha : PA X [a] ta) (hs : starEach [a] X.env = [(false, eval a X.env)] := by rfl) : PI X tg (.Call (.Name "range" p) [a] [] pos) (iRng1 ta) := by
  intro pins s σ H R I h
  refine Call_ (ld_blt I hg hm boot_range (PyProof.Rows.callWith_type1 (thn (ha pos pins s σ H _ I h) fun us s1 ⟨vs, H1, I1, r1, q1⟩ => ?_) hs rfl))
  obtain ⟨j, e, q1, q2, q⟩ := q1
  subst e
  cases r1 with
  | cons r rr =>
    cases rr
    obtain ⟨t, rfl⟩ := r
    exact call_range_1 (range_it I1 (by omega) (by omega) q1 q2 (by simpa using q))
noncomputable def tFor (wi : TI) (g : TG) (tb : TS) : TS := fun D σ H => wi σ H fun J H1 => ∃ W : Nat → Nat → St → Hp → Prop, (∃ m, W 0 m σ H1) ∧ ∀ i m σ H, W i m σ H →
  (J.stop i H ∧ D.nx σ H) ∨ (J.go i H ∧ ∃ N : St → Hp → Prop, (∀ σ' H', N σ' H' → ∃ m', m' < m ∧ W (i + 1) m' σ' H') ∧ ∀ x H', J.yld i H x H' → g x σ H' fun σ2 H2 => tb { D with nx := N, ct := N, bk := D.nx } σ2 H2)
noncomputable def pinsAt (fp : List Addr) (h : Heap) : List (Addr × Obj) := fp.filterMap fun b => (h.get? b).map fun o => (b, o)
theorem mem_pinsAt {fp : List Addr} {h : Heap} {b : Addr} {o : Obj} (hb : b ∈ fp) (e : h.get? b = some o) : (b, o) ∈ pinsAt fp h := List.mem_filterMap.mpr ⟨b, hb, by rw [e]; rfl⟩
theorem of_pinsAt {fp : List Addr} {h : Heap} {p : Addr × Obj} (hp : p ∈ pinsAt fp h) : p.1 ∈ fp ∧ h.get? p.1 = some p.2 := by
  obtain ⟨b, hb, e⟩ := List.mem_filterMap.mp hp
  cases q : h.get? b with
  | none => rw [q] at e; cases e
  | some o =>
    rw [q] at e
    have e' : (b, o) = p := Option.some.inj e
    subst e'
    exact ⟨hb, q⟩
theorem Inv.pinned {pins : List (Addr × Obj)} {σ : St} {H : Hp} {s : Shared} {fp : List Addr} (I : Inv X pins σ H s) (hf : ∀ b ∈ fp, FpOk X pins H b) (ho : ∀ b ∈ fp, ∃ o, s.heap.get? b = some o ∧ ∀ v, o.data ≠ .cell v) : Inv X (pins ++ pinsAt fp s.heap) σ H s :=
  I.pins_of fun p hp => (List.mem_append.mp hp).elim (fun z => I.pin p (List.mem_append_right _ z)) fun z => by
    obtain ⟨hb, e⟩ := of_pinsAt z
    obtain ⟨f0, f1, f2, _⟩ := hf p.1 hb
    obtain ⟨o, e', d⟩ := ho p.1 hb
    rw [e] at e'; cases e'
    exact ⟨e, f0, f1, f2, d⟩
theorem Inv.unpinned {pins pl : List (Addr × Obj)} {σ : St} {H : Hp} {s : Shared} (I : Inv X (pins ++ pl) σ H s) : Inv X pins σ H s := I.pins_of fun p hp => I.pin p (List.mem_append_right _ (List.mem_append_left _ hp))
theorem ps_for {iter : Expr} {body : List Stmt} {wi : TI} {g : TG} {tb : TS} {pos : Pos} (hp : PassesOwn (model X.prog X.w) X.A X.env X.xe) (hc : X.calm = true) (hi : PI X tg iter wi) (hg : PG X tg g) (hb : PSs X body tb)
    (hs : ∀ x, foldedSetIterable iter X.env x = pure x := by intro _; rfl) : PS X (.For tg iter body [] pos) (tFor wi g tb) := by
  intro pins s σ H D I h
  refine wpAny_For (thn (hi pins s σ H _ I h) fun v s1 h1 => thn h1 fun itv s2 h2 => ?_) hs
  obtain ⟨it, fp, tn, J, H2, e, I2, T, st2, f2, W, ⟨m0, w0⟩, turn⟩ := h2
  subst e
  -- what stays true of the iterator's objects through the loop
  have stat : ∀ {H' : Hp}, (∀ b ∈ fp, H' b = none) → ∀ b ∈ fp, FpOk X pins H' b := fun hn b hb => ⟨hn b hb, (f2 b hb).2⟩
  refine codeAny_forLoop_any (fun n s' => ∃ i σ' H', Inv X pins σ' H' s' ∧ tn i s'.heap ∧ (∀ b ∈ fp, H' b = none) ∧ W i n σ' H') ?_ m0 ⟨0, σ, H2, I2, st2, fun b hb => (f2 b hb).1, w0⟩
  rintro n s3 ⟨i, σ3, H3, I3, st3, fr3, w3⟩
  rcases turn i n σ3 H3 w3 with ⟨stop, qn⟩ | ⟨go, N, hN, step⟩
  · refine wpAny_passesOwn hp (thn (T.done X rfl rfl rfl hc i pins s3 σ3 H3 X.xe I3 (stat fr3) st3 stop) fun r s4 ⟨hr, I4⟩ => ?_)
    subst hr
    exact wpAny_execs_nil ⟨σ3, H3, I4, qn⟩
  · refine wpAny_passesOwn hp (thn (T.item X rfl rfl rfl hc i pins s3 σ3 H3 X.xe I3 (stat fr3) st3 go) fun r s4 ⟨u, hr, h4⟩ => ?_)
    subst hr
    refine wpAny_passesOwn hp (thn h4 fun _ s5 ⟨x, H5, I5, r5, y5, st5, fr5⟩ => ?_)
    have I5' := I5.pinned (stat fr5) (T.obj _ _ st5)
    refine wpAny_passesOwn hp (thn (hg _ s5 σ3 H5 x u _ I5' r5 (step x H5 y5)) fun _ s6 ⟨σ6, H6, I6, q6⟩ => ?_)
    refine wpAny_passesOwn hp (thn (hb _ s6 σ6 H6 _ I6 q6) fun f s7 q7 => ?_)
    have again : ∀ {σ7 : St} {H7 : Hp}, Inv X (pins ++ pinsAt fp s5.heap) σ7 H7 s7 → N σ7 H7 → ∃ m, m < n ∧ ∃ i σ' H', Inv X pins σ' H' s7 ∧ tn i s7.heap ∧ (∀ b ∈ fp, H' b = none) ∧ W i m σ' H' := fun {σ7 H7} I7 n7 => by
      obtain ⟨m', hm, w7⟩ := hN σ7 H7 n7
      refine ⟨m', hm, i + 1, σ7, H7, I7.unpinned, T.keep _ _ _ st5 fun b hb o e => (I7.pin (b, o) (List.mem_append_right _ (List.mem_append_right _ (mem_pinsAt hb e)))).1, fun b hb => ?_, w7⟩
      obtain ⟨o, e, d⟩ := T.obj _ _ st5 b hb
      exact (I7.pin (b, o) (List.mem_append_right _ (List.mem_append_right _ (mem_pinsAt hb e)))).2.1
    cases f with
    | next => obtain ⟨σ7, H7, I7, n7⟩ := q7; exact again I7 n7
    | cont => obtain ⟨σ7, H7, I7, n7⟩ := q7; exact again I7 n7
    | brk => obtain ⟨σ7, H7, I7, q7⟩ := q7; exact ⟨σ7, H7, I7.unpinned, q7⟩
    | ret v => obtain ⟨x7, σ7, H7, I7, r7, q7⟩ := q7; exact ⟨x7, σ7, H7, I7.unpinned, r7, q7⟩
end
theorem for_list {K : PySem.W.Frag} {a : Addr} {xs : List V} {g : TG} {tb : TS} {D : Ends} {σ : St} {H : Hp} (Pv : Nat → St → Hp → Prop) (h0 : Pv 0 σ H) (hl : ∀ i σ H, i ≤ xs.length → Pv i σ H → SqL K H a xs)
    (hs : ∀ i x σ H, xs[i]? = some x → Pv i σ H → g x σ H fun σ2 H2 => tb { D with nx := Pv (i + 1), ct := Pv (i + 1), bk := D.nx } σ2 H2) (hd : ∀ σ H, Pv xs.length σ H → D.nx σ H) :
    ∃ W : Nat → Nat → St → Hp → Prop, (∃ m, W 0 m σ H) ∧ ∀ i m σ H, W i m σ H →
      ((Itl K a).stop i H ∧ D.nx σ H) ∨ ((Itl K a).go i H ∧ ∃ N : St → Hp → Prop, (∀ σ' H', N σ' H' → ∃ m', m' < m ∧ W (i + 1) m' σ' H') ∧ ∀ x H', (Itl K a).yld i H x H' → g x σ H' fun σ2 H2 => tb { D with nx := N, ct := N, bk := D.nx } σ2 H2) := by
  refine ⟨fun i m σ H => m = xs.length - i ∧ i ≤ xs.length ∧ Pv i σ H, ⟨xs.length, by simp, Nat.zero_le _, h0⟩, ?_⟩
  rintro i m σ H ⟨rfl, hi, p⟩
  have q := hl i σ H hi p
  by_cases hlt : i < xs.length
  · refine .inr ⟨⟨xs, xs[i], q, by simp [hlt]⟩, Pv (i + 1), fun σ' H' p' => ⟨xs.length - (i + 1), by omega, rfl, hlt, p'⟩, fun x H' y => ?_⟩
    obtain ⟨e, y⟩ := y
    subst e
    exact hs i x σ _ (y xs q) p
  · have e : i = xs.length := by omega
    subst e
    exact .inl ⟨⟨xs, q, Nat.le_refl _⟩, hd σ H p⟩
theorem for_tup {K : PySem.W.Frag} {a : Addr} {xs : List V} {g : TG} {tb : TS} {D : Ends} {σ : St} {H : Hp} (Pv : Nat → St → Hp → Prop) (h0 : Pv 0 σ H) (hl : ∀ i σ H, i ≤ xs.length → Pv i σ H → SqT K H a xs)
    (hs : ∀ i x σ H, xs[i]? = some x → Pv i σ H → g x σ H fun σ2 H2 => tb { D with nx := Pv (i + 1), ct := Pv (i + 1), bk := D.nx } σ2 H2) (hd : ∀ σ H, Pv xs.length σ H → D.nx σ H) :
    ∃ W : Nat → Nat → St → Hp → Prop, (∃ m, W 0 m σ H) ∧ ∀ i m σ H, W i m σ H →
      ((Itt K a).stop i H ∧ D.nx σ H) ∨ ((Itt K a).go i H ∧ ∃ N : St → Hp → Prop, (∀ σ' H', N σ' H' → ∃ m', m' < m ∧ W (i + 1) m' σ' H') ∧ ∀ x H', (Itt K a).yld i H x H' → g x σ H' fun σ2 H2 => tb { D with nx := N, ct := N, bk := D.nx } σ2 H2) := by
  refine ⟨fun i m σ H => m = xs.length - i ∧ i ≤ xs.length ∧ Pv i σ H, ⟨xs.length, by simp, Nat.zero_le _, h0⟩, ?_⟩
  rintro i m σ H ⟨rfl, hi, p⟩
  have q := hl i σ H hi p
  by_cases hlt : i < xs.length
  · refine .inr ⟨⟨xs, xs[i], q, by simp [hlt]⟩, Pv (i + 1), fun σ' H' p' => ⟨xs.length - (i + 1), by omega, rfl, hlt, p'⟩, fun x H' y => ?_⟩
    obtain ⟨e, y⟩ := y
    subst e
    exact hs i x σ _ (y xs q) p
  · have e : i = xs.length := by omega
    subst e
    exact .inl ⟨⟨xs, q, Nat.le_refl _⟩, hd σ H p⟩
theorem for_range {lo : Int} {n : Nat} {g : TG} {tb : TS} {D : Ends} {σ : St} {H : Hp} (Pv : Nat → St → Hp → Prop) (h0 : Pv 0 σ H)
    (hs : ∀ i σ H, i < n → Pv i σ H → g (.int (lo + i)) σ H fun σ2 H2 => tb { D with nx := Pv (i + 1), ct := Pv (i + 1), bk := D.nx } σ2 H2) (hd : ∀ σ H, Pv n σ H → D.nx σ H) :
    ∃ W : Nat → Nat → St → Hp → Prop, (∃ m, W 0 m σ H) ∧ ∀ i m σ H, W i m σ H →
      ((Itr lo n).stop i H ∧ D.nx σ H) ∨ ((Itr lo n).go i H ∧ ∃ N : St → Hp → Prop, (∀ σ' H', N σ' H' → ∃ m', m' < m ∧ W (i + 1) m' σ' H') ∧ ∀ x H', (Itr lo n).yld i H x H' → g x σ H' fun σ2 H2 => tb { D with nx := N, ct := N, bk := D.nx } σ2 H2) := by
  refine ⟨fun i m σ H => m = n - i ∧ i ≤ n ∧ Pv i σ H, ⟨n, by simp, Nat.zero_le _, h0⟩, ?_⟩
  rintro i m σ H ⟨rfl, hi, p⟩
  by_cases hlt : i < n
  · refine .inr ⟨hlt, Pv (i + 1), fun σ' H' p' => ⟨n - (i + 1), by omega, rfl, hlt, p'⟩, fun x H' y => ?_⟩
    obtain ⟨e, y⟩ := y
    subst e y
    exact hs i σ _ hlt p
  · have e : i = n := by omega
    subst e
    exact .inl ⟨Nat.le_refl _, hd σ H p⟩
end L2
namespace L2
open PySem PySem.Spec PyProof.Rows
noncomputable abbrev R2 := V → V → Hp → VK → Prop
noncomputable def OpR (X : Cx) (f : Value → Value → Sem Value) (r : R2) : Prop :=
  ∀ (pins : List (Addr × Obj)) (s : Shared) (σ : St) (H : Hp) (x y : V) (v u : Value) (Q : VK), Inv X pins σ H s → RelV x v → RelV y u → r x y H Q →
    wpAny (model X.prog X.w) X.A (f v u) (EP X pins σ Q) X.xe s
noncomputable def UnR (X : Cx) (f : Value → Sem Value) (r : V → Hp → VK → Prop) : Prop :=
  ∀ (pins : List (Addr × Obj)) (s : Shared) (σ : St) (H : Hp) (x : V) (v : Value) (Q : VK), Inv X pins σ H s → RelV x v → r x H Q →
    wpAny (model X.prog X.w) X.A (f v) (EP X pins σ Q) X.xe s
noncomputable def CallR (X : Cx) (f : Value) (r : List V → Hp → VK → Prop) : Prop :=
  ∀ (pins : List (Addr × Obj)) (s : Shared) (σ : St) (H : Hp) (xs : List V) (us : List Value) (Q : VK), Inv X pins σ H s → Vals xs us → r xs H Q →
    wpAny (model X.prog X.w) X.A (call f us) (EP X pins σ Q) X.xe s
noncomputable def tOp (r : R2) (ta tb : TE) : TE := fun σ H Q => ta σ H fun x H1 => tb σ H1 fun y H2 => r x y H2 Q
noncomputable def tUn (r : V → Hp → VK → Prop) (ta : TE) : TE := fun σ H Q => ta σ H fun x H1 => r x H1 Q
noncomputable def rI (C : Int → Int → Prop) (g : Int → Int → V) : R2 := fun x y H Q => ∃ i j, x = .int i ∧ y = .int j ∧ C i j ∧ Q (g i j) H
noncomputable def rI0 (g : Int → Int → V) : R2 := fun x y H Q => ∃ i j, x = .int i ∧ y = .int j ∧ Q (g i j) H
section
variable {X : Cx} {a b c : Expr} {ta tb tc : TE} {pos : Pos}
theorem binT (ha : PE X a ta) (hb : PE X b tb) {pins : List (Addr × Obj)} {s : Shared} {σ : St} {H : Hp} {R : V → V → Hp → Prop} (I : Inv X pins σ H s)
    (h : ta σ H fun x H1 => tb σ H1 fun y H2 => R x y H2) {Q : Value → Shared → Prop} {f : Value → Value → Sem Value}
    (hf : ∀ v u s2 x y H2, Inv X pins σ H2 s2 → RelV x v → RelV y u → R x y H2 → wpAny (model X.prog X.w) X.A (f v u) Q X.xe s2) :
    wpAny (model X.prog X.w) X.A (eval a X.env) (fun v s₁ => wpAny (model X.prog X.w) X.A (eval b X.env) (fun u s₂ => wpAny (model X.prog X.w) X.A (f v u) Q X.xe s₂) X.xe s₁) X.xe s := by
  refine thn (ha pins s σ H _ I h) fun v s1 ⟨x, H1, I1, r1, q1⟩ => ?_
  refine thn (hb pins s1 σ H1 _ I1 q1) fun u s2 ⟨y, H2, I2, r2, q2⟩ => ?_
  exact hf v u s2 x y H2 I2 r1 r2 q2
theorem pe_op {op : Operator} {r : R2} (ho : OpR X (binaryOp op) r) (ha : PE X a ta) (hb : PE X b tb) : PE X (.BinOp a op b pos) (tOp r ta tb) := by
  intro pins s σ H Q I h
  exact wpAny_BinOp (binT ha hb I h fun v u s2 x y H2 I2 rx ry q => ho pins s2 σ H2 x y v u Q I2 rx ry q)
theorem pe_un {op : UnaryOp} {r : V → Hp → VK → Prop} (ho : UnR X (unaryOp op) r) (ha : PE X a ta) : PE X (.UnaryOp op a pos) (tUn r ta) := by
  intro pins s σ H Q I h
  exact UnaryOp_ (thn (ha pins s σ H _ I h) fun v s1 ⟨x, H1, I1, r1, q1⟩ => ho pins s1 σ H1 x v Q I1 r1 q1)
theorem opI {f : Value → Value → Sem Value} {C : Int → Int → Prop} {g : Int → Int → Int}
    (rule : ∀ (i j : Int) (t u : Tok) (s : Shared) (Q : Value → Shared → Prop) (E : Value → Shared → Prop), C i j → Q (.int (g i j) s.toks) { s with toks := s.toks + 1 } → wpAny (model X.prog X.w) X.A (f (.int i t) (.int j u)) Q E s) :
    OpR X f (rI C fun i j => .int (g i j)) := by
  intro pins s σ H x y v u Q I rx ry h
  obtain ⟨i, j, rfl, rfl, hc, q⟩ := h
  obtain ⟨t, rfl⟩ := rx
  obtain ⟨t', rfl⟩ := ry
  exact rule i j t t' s _ _ hc ⟨.int (g i j), H, I.tok _, ⟨_, rfl⟩, q⟩
theorem opI0 {f : Value → Value → Sem Value} {g : Int → Int → Int}
    (rule : ∀ (i j : Int) (t u : Tok) (s : Shared) (Q : Value → Shared → Prop) (E : Value → Shared → Prop), Q (.int (g i j) s.toks) { s with toks := s.toks + 1 } → wpAny (model X.prog X.w) X.A (f (.int i t) (.int j u)) Q E s) :
    OpR X f (rI0 fun i j => .int (g i j)) := by
  intro pins s σ H x y v u Q I rx ry h
  obtain ⟨i, j, rfl, rfl, q⟩ := h
  obtain ⟨t, rfl⟩ := rx
  obtain ⟨t', rfl⟩ := ry
  exact rule i j t t' s _ _ ⟨.int (g i j), H, I.tok _, ⟨_, rfl⟩, q⟩
theorem opB0 {f : Value → Value → Sem Value} {g : Int → Int → Bool}
    (rule : ∀ (i j : Int) (t u : Tok) (s : Shared) (Q : Value → Shared → Prop) (E : Value → Shared → Prop), Q (.bool (g i j)) s → wpAny (model X.prog X.w) X.A (f (.int i t) (.int j u)) Q E s) :
    OpR X f (rI0 fun i j => .bl (g i j)) := by
  intro pins s σ H x y v u Q I rx ry h
  obtain ⟨i, j, rfl, rfl, q⟩ := h
  obtain ⟨t, rfl⟩ := rx
  obtain ⟨t', rfl⟩ := ry
  exact rule i j t t' s _ _ ⟨.bl (g i j), H, I, rfl, q⟩
noncomputable def CDiv (i j : Int) : Prop := 0 < j ∧ j < 1073741824
noncomputable def CPow (i j : Int) : Prop := 0 ≤ j ∧ j ≤ 1000000 ∧ i.natAbs < 2 ^ 64
noncomputable def CMul (i j : Int) : Prop := (-(2 ^ 64) < i ∧ i < 2 ^ 64) ∨ (-(2 ^ 64) < j ∧ j < 2 ^ 64)
theorem CMul.ok {i j : Int} (h : CMul i j) : IntMulOk i j := by
  rcases h with ⟨h1, h2⟩ | ⟨h1, h2⟩
  · exact .of_left (intBits_le_64 h1 h2)
  · exact .of_right (intBits_le_64 h1 h2)
theorem op_add : OpR X (binaryOp .Add) (rI0 fun i j => .int (i + j)) := opI0 fun _ _ _ _ _ _ _ q => add_int q
theorem op_sub : OpR X (binaryOp .Sub) (rI0 fun i j => .int (i - j)) := opI0 fun _ _ _ _ _ _ _ q => sub_int q
theorem op_mul : OpR X (binaryOp .Mult) (rI CMul fun i j => .int (i * j)) := opI fun _ _ _ _ _ _ _ hc q => mul_int q hc.ok
theorem op_fdiv : OpR X (binaryOp .FloorDiv) (rI CDiv fun i j => .int (i / j)) := opI fun i j _ _ _ _ _ hc q => by
  have h1 : (0 : Int) < j := hc.1
  have h2 : j < 1073741824 := hc.2
  exact floordiv_int (by omega) (by rw [Int.fdiv_eq_ediv_of_nonneg i (by omega)]; exact q) (.inl (PyProof.noPylong_small (by omega)))
theorem op_mod : OpR X (binaryOp .Mod) (rI (fun _ j => 0 < j) fun i j => .int (i % j)) := opI fun i j _ _ _ _ _ hc q => by
  have h1 : (0 : Int) < j := hc
  exact mod_int' (by omega) (by rw [Int.fmod_eq_emod_of_nonneg i (by omega)]; exact q)
theorem op_pow : OpR X (binaryOp .Pow) (rI CPow fun i j => .int (i ^ j.toNat)) := opI fun _ _ _ _ _ _ _ hc q => pow_int_small hc.1 hc.2.1 hc.2.2 q
end
noncomputable def scal : V → V → Bool
  | .non, .non => true | .non, .int _ => true | .int _, .non => true | .non, .bl _ => true | .bl _, .non => true | .non, .str _ => true | .str _, .non => true
  | .int _, .int _ => true | .bl _, .bl _ => true | .str _, .str _ => true | .byt _, .byt _ => true
  | .int _, .str _ => true | .str _, .int _ => true | .bl _, .str _ => true | .str _, .bl _ => true
  | _, _ => false
noncomputable def rEq : R2 := fun x y H Q => scal x y = true ∧ Q (.bl (decide (x = y))) H
noncomputable def rNe : R2 := fun x y H Q => scal x y = true ∧ Q (.bl (!decide (x = y))) H
theorem dec_int {i j : Int} : decide (V.int i = V.int j) = (i == j) := by
  rw [Bool.eq_iff_iff]
  simp
theorem dec_bl {i j : Bool} : decide (V.bl i = V.bl j) = (i == j) := by
  rw [Bool.eq_iff_iff]
  simp
theorem dec_str {i j : Str} : decide (V.str i = V.str j) = (i == j) := by
  rw [Bool.eq_iff_iff]
  simp
theorem dec_byt {i j : Array UInt8} : decide (V.byt i = V.byt j) = (i.toList == j.toList) := by
  rw [Bool.eq_iff_iff]
  cases i
  cases j
  simp
section
variable {X : Cx} {a b c : Expr} {ta tb tc : TE} {pos : Pos}
theorem fin_bl {pins : List (Addr × Obj)} {σ : St} {H : Hp} {s : Shared} {Q : VK} {k k' : Bool} (I : Inv X pins σ H s) (q : Q (.bl k) H) (e : k = k') : EP X pins σ Q (.bool k') s := by
  subst e
  exact ⟨.bl k, H, I, rfl, q⟩
theorem op_eq : OpR X (compareOp .Eq) rEq := by
  intro pins s σ H x y v u Q I rx ry h
  obtain ⟨hs, q⟩ := h
  cases x with
  | non =>
    cases rx
    cases y with
    | non => cases ry; exact PySem.EqNone.eq_none_none (fin_bl I q (by simp))
    | bl j => cases ry; exact PySem.EqNone.eq_none_bool (fin_bl I q (by simp))
    | int j => obtain ⟨t', rfl⟩ := ry; exact PySem.EqNone.eq_none_int (fin_bl I q (by simp))
    | str j => obtain ⟨t', rfl⟩ := ry; exact PySem.EqNone.eq_none_str (fin_bl I q (by simp))
    | _ => exact absurd (show false = true from hs) Bool.false_ne_true
  | bl i =>
    cases rx
    cases y with
    | non => cases ry; exact PySem.EqNone.eq_bool_none (fin_bl I q (by simp))
    | bl j => cases ry; exact eq_bool (fin_bl I q dec_bl)
    | str j => obtain ⟨t', rfl⟩ := ry; exact PySem.EqMixed.eq_bool_str (fin_bl I q (by simp))
    | _ => exact absurd (show false = true from hs) Bool.false_ne_true
  | int i =>
    obtain ⟨t, rfl⟩ := rx
    cases y with
    | non => cases ry; exact PySem.EqNone.eq_int_none (fin_bl I q (by simp))
    | int j => obtain ⟨t', rfl⟩ := ry; exact eq_int (fin_bl I q dec_int)
    | str j => obtain ⟨t', rfl⟩ := ry; exact PySem.EqMixed.eq_int_str (fin_bl I q (by simp))
    | _ => exact absurd (show false = true from hs) Bool.false_ne_true
  | str i =>
    obtain ⟨t, rfl⟩ := rx
    cases y with
    | non => cases ry; exact PySem.EqNone.eq_str_none (fin_bl I q (by simp))
    | bl j => cases ry; exact PySem.EqMixed.eq_str_bool (fin_bl I q (by simp))
    | int j => obtain ⟨t', rfl⟩ := ry; exact PySem.EqMixed.eq_str_int (fin_bl I q (by simp))
    | str j => obtain ⟨t', rfl⟩ := ry; exact eq_str (fin_bl I q dec_str)
    | _ => exact absurd (show false = true from hs) Bool.false_ne_true
  | byt i =>
    obtain ⟨t, rfl⟩ := rx
    cases y with
    | byt j => obtain ⟨t', rfl⟩ := ry; exact PySem.W.eq_bytes (fin_bl I q dec_byt)
    | _ => exact absurd (show false = true from hs) Bool.false_ne_true
  | _ => cases y <;> exact absurd (show false = true from hs) Bool.false_ne_true
theorem op_ne : OpR X (compareOp .NotEq) rNe := by
  intro pins s σ H x y v u Q I rx ry h
  obtain ⟨hs, q⟩ := h
  cases x with
  | non =>
    cases rx
    cases y with
    | non => cases ry; exact PySem.EqNone.ne_none_none (fin_bl I q (by simp))
    | bl j => cases ry; exact PySem.EqNone.ne_none_bool (fin_bl I q (by simp))
    | int j => obtain ⟨t', rfl⟩ := ry; exact PySem.EqNone.ne_none_int (fin_bl I q (by simp))
    | str j => obtain ⟨t', rfl⟩ := ry; exact PySem.EqNone.ne_none_str (fin_bl I q (by simp))
    | _ => exact absurd (show false = true from hs) Bool.false_ne_true
  | bl i =>
    cases rx
    cases y with
    | non => cases ry; exact PySem.EqNone.ne_bool_none (fin_bl I q (by simp))
    | bl j => cases ry; exact ne_bool (fin_bl I q (congrArg not dec_bl))
    | str j => obtain ⟨t', rfl⟩ := ry; exact PySem.EqMixed.ne_bool_str (fin_bl I q (by simp))
    | _ => exact absurd (show false = true from hs) Bool.false_ne_true
  | int i =>
    obtain ⟨t, rfl⟩ := rx
    cases y with
    | non => cases ry; exact PySem.EqNone.ne_int_none (fin_bl I q (by simp))
    | int j => obtain ⟨t', rfl⟩ := ry; exact ne_int (fin_bl I q (congrArg not dec_int))
    | str j => obtain ⟨t', rfl⟩ := ry; exact PySem.EqMixed.ne_int_str (fin_bl I q (by simp))
    | _ => exact absurd (show false = true from hs) Bool.false_ne_true
  | str i =>
    obtain ⟨t, rfl⟩ := rx
    cases y with
    | non => cases ry; exact PySem.EqNone.ne_str_none (fin_bl I q (by simp))
    | bl j => cases ry; exact PySem.EqMixed.ne_str_bool (fin_bl I q (by simp))
    | int j => obtain ⟨t', rfl⟩ := ry; exact PySem.EqMixed.ne_str_int (fin_bl I q (by simp))
    | str j => obtain ⟨t', rfl⟩ := ry; exact ne_str (fin_bl I q (congrArg not dec_str))
    | _ => exact absurd (show false = true from hs) Bool.false_ne_true
  | byt i =>
    obtain ⟨t, rfl⟩ := rx
    cases y with
    | byt j => obtain ⟨t', rfl⟩ := ry; exact PySem.W.ne_bytes (fin_bl I q (congrArg not dec_byt))
    | _ => exact absurd (show false = true from hs) Bool.false_ne_true
  | _ => cases y <;> exact absurd (show false = true from hs) Bool.false_ne_true
theorem op_lt : OpR X (compareOp .Lt) (rI0 fun i j => .bl (decide (i < j))) := opB0 fun _ _ _ _ _ _ _ q => lt_int q
theorem op_le : OpR X (compareOp .LtE) (rI0 fun i j => .bl (decide (i ≤ j))) := opB0 fun _ _ _ _ _ _ _ q => le_int q
theorem op_gt : OpR X (compareOp .Gt) (rI0 fun i j => .bl (decide (j < i))) := opB0 fun _ _ _ _ _ _ _ q => gt_int q
theorem op_ge : OpR X (compareOp .GtE) (rI0 fun i j => .bl (decide (j ≤ i))) := opB0 fun _ _ _ _ _ _ _ q => ge_int q
theorem op_isN : OpR X (compareOp .Is) (fun x y H Q => y = .non ∧ Q (.bl (decide (x = .non))) H) := by
  intro pins s σ H x y v u Q I rx ry h
  obtain ⟨rfl, q⟩ := h
  cases ry
  refine is_none_gen (fin_bl I q ?_)
  cases x <;> first
    | (cases rx; rfl)
    | (obtain ⟨t, rfl⟩ := rx; rfl)
theorem nomark (b : Expr) {op : CmpOp} (h : op ≠ .In := by decide) (h2 : op ≠ .NotIn := by decide) : behindInMarks op b = false := by
  have e1 : (op == CmpOp.In) = false := by cases op <;> first | rfl | exact absurd rfl h
  have e2 : (op == CmpOp.NotIn) = false := by cases op <;> first | rfl | exact absurd rfl h2
  cases b <;> simp [behindInMarks, e1, e2]
theorem pe_cmpR {op : CmpOp} {r : R2} (ho : OpR X (compareOp op) r) (ha : PE X a ta) (hb : PE X b tb) (hm : behindInMarks op b = false) : PE X (.Compare a [op] [b] pos) (tOp r ta tb) := by
  intro pins s σ H Q I h
  exact wpAny_Compare1 (binT ha hb I h fun v u s2 x y H2 I2 rx ry q => ho pins s2 σ H2 x y v u Q I2 rx ry q) hm
theorem line63 : (sizeLine : Nat) < 2 ^ 63 := by rw [sizeLine_eq]; decide
theorem op_add_str : OpR X (binaryOp .Add) (fun x y H Q => ∃ i j, x = .str i ∧ y = .str j ∧ i.length + j.length ≤ sizeLine ∧ Q (.str (i ++ j)) H) := by
  intro pins s σ H x y v u Q I rx ry h
  obtain ⟨i, j, rfl, rfl, hz, q⟩ := h
  obtain ⟨t, rfl⟩ := rx
  obtain ⟨t', rfl⟩ := ry
  exact add_str (fun t' tk => ⟨.str (i ++ j), H, I.tok _, ⟨_, rfl⟩, q⟩) hz
theorem vals1 {x : V} {us : List Value} (r : Vals [x] us) : ∃ u, us = [u] ∧ RelV x u := by
  cases r with
  | cons r1 r2 => cases r2; exact ⟨_, rfl, r1⟩
theorem vals2 {x y : V} {us : List Value} (r : Vals [x, y] us) : ∃ u w', us = [u, w'] ∧ RelV x u ∧ RelV y w' := by
  cases r with
  | cons r1 r2 =>
    cases r2 with
    | cons r3 r4 => cases r4; exact ⟨_, _, rfl, r1, r3⟩
theorem call_abs : CallR X (.builtin "abs") (fun xs H Q => ∃ i, xs = [.int i] ∧ Q (.int (if i < 0 then -i else i)) H) := by
  intro pins s σ H xs us Q I r h
  obtain ⟨i, rfl, q⟩ := h
  obtain ⟨u, rfl, t, rfl⟩ := vals1 r
  exact call_abs_int fun u tk => ⟨.int (if i < 0 then -i else i), H, I.tok _, ⟨_, rfl⟩, q⟩
theorem call_max2 (hc : X.calm = true) : CallR X (.builtin "max") (fun xs H Q => ∃ i j, xs = [.int i, .int j] ∧ Q (.int (if j > i then j else i)) H) := by
  intro pins s σ H xs us Q I r h
  obtain ⟨i, j, rfl, q⟩ := h
  obtain ⟨u, w', rfl, ⟨t, rfl⟩, ⟨t', rfl⟩⟩ := vals2 r
  refine max_two_ints (I.ok.hd hc) fun h' tk k => ⟨_, H, I.kept k, ?_, q⟩
  by_cases hj : j > i
  · rw [if_pos hj, if_pos hj]; exact ⟨_, rfl⟩
  · rw [if_neg hj, if_neg hj]; exact ⟨_, rfl⟩
theorem call_min2 (hc : X.calm = true) : CallR X (.builtin "min") (fun xs H Q => ∃ i j, xs = [.int i, .int j] ∧ Q (.int (if j < i then j else i)) H) := by
  intro pins s σ H xs us Q I r h
  obtain ⟨i, j, rfl, q⟩ := h
  obtain ⟨u, w', rfl, ⟨t, rfl⟩, ⟨t', rfl⟩⟩ := vals2 r
  refine min_two_ints (I.ok.hd hc) fun h' tk k => ⟨_, H, I.kept k, ?_, q⟩
  by_cases hj : j < i
  · rw [if_pos hj, if_pos hj]; exact ⟨_, rfl⟩
  · rw [if_neg hj, if_neg hj]; exact ⟨_, rfl⟩
theorem call_divmod : CallR X (.builtin "divmod") (fun xs H Q => ∃ i j, xs = [.int i, .int j] ∧ CDiv i j ∧ ∀ p, H p = none → Q (.ref p) (upd H p (.tup [.int (i / j), .int (i % j)]))) := by
  intro pins s σ H xs us Q I r h
  obtain ⟨i, j, rfl, ⟨h1, h2⟩, q⟩ := h
  obtain ⟨u, w', rfl, ⟨t, rfl⟩, ⟨t', rfl⟩⟩ := vals2 r
  refine divmod_int (by omega) ?_ (.inl (PyProof.noPylong_small (by omega)))
  rw [Int.fdiv_eq_ediv_of_nonneg i (by omega), Int.fmod_eq_emod_of_nonneg i (by omega)]
  have hn : H s.heap.objs.size = none := I.hok.fresh (Nat.le_refl _)
  refine ⟨.ref s.heap.objs.size, _, ?_, rfl, q _ hn⟩
  refine I.laid (fun b o e => Heap.get?_push_of_some _ e) (Nat.le_refl _) ⟨by simp only [List.length_cons, List.length_nil]; rw [sizeLine_eq]; decide, [.int (i / j) s.toks, .int (i % j) (s.toks + 1)], .cons ⟨_, rfl⟩ (.cons ⟨_, rfl⟩ .nil), ?_⟩
  exact ⟨_, Heap.get?_push_size s.heap rfl, rfl, 0, rfl⟩
end
end L2
namespace L2
open PySem PySem.Spec PyProof.Rows
structure ObjM (h : Heap) (x dx C : Addr) (mA : Str → Option Value) : Prop where
  obj : h.get? x = some (PySem.W.instObj C dx)
  ns : h.Ns1 dx mA
  ne : dx ≠ x
theorem lookIn_ns {h : Heap} {dx : Addr} {mA : Str → Option Value} (n : h.Ns1 dx mA) : ∃ od, h.get? dx = some od ∧ ∀ name, PySem.W.lookIn name od = some (mA name) := by
  obtain ⟨o, es, ep, ho, hd, hk, _, hm⟩ := n
  refine ⟨o, ho, fun name => ?_⟩
  have e := hm name
  unfold nsFind findBy at e
  rw [← Array.find?_toList] at e
  unfold PySem.W.lookIn
  rw [hd]
  dsimp only
  split
  · rename_i y q
    rw [q] at e
    exact congrArg some e
  · rename_i q
    rw [q] at e
    have a : es.toList.any (·.refKey) = false := by
      rw [List.any_eq_false]
      intro y hy
      obtain ⟨z, t, hkey⟩ := hk y (Array.mem_toList_iff.mp hy)
      simp [DictEntry.refKey, hkey]
    have a' : ¬ es.toList.any (·.refKey) = true := by rw [a]; exact Bool.false_ne_true
    rw [if_neg a']
    exact congrArg some e
theorem ObjM.look {h : Heap} {x dx C : Addr} {mA : Str → Option Value} (I : ObjM h x dx C mA) : ∃ od, PySem.W.InstAt h x (PySem.W.instObj C dx) C (some od) ∧ ∀ name, PySem.W.lookIn name od = some (mA name) :=
  let ⟨od, ho, hl⟩ := lookIn_ns I.ns
  ⟨od, ⟨I.obj, rfl, rfl, ho⟩, hl⟩
section
variable {prog : Program} {w : World} {A : Around} {E : Value → Shared → Prop} {s : Shared} {K : PySem.W.Frag} {x dx C f : Addr} {mA : Str → Option Value} {name : Str} {v : Value}
end
theorem RelO.some_of {v : V} {o : Option Value} (r : RelO (some v) o) : ∃ u, o = some u ∧ RelV v u := by
  cases o with
  | none => exact (show False from r).elim
  | some u => exact ⟨u, rfl, r⟩
section
variable {P : Program} {w : World} {H H' : Hp} {h h' : Heap} {a C dx : Addr} {fs fs' : List (Str × V)}
theorem ins_get (hok : HOk P w H h) (e : H a = some (.ins C dx fs)) : ∃ mA, ObjM h a dx C mA ∧ (∀ f, RelO (fs.lookup f) (mA f)) ∧ PySem.Within mA (fs.map (·.1)) ∧ fs.length ≤ 1000 ∧ H dx = some (.own a) := by
  obtain ⟨d, z, ne, ob, mA, n, r, q⟩ := (show ObjOk P w H h a (.ins C dx fs) from hok a _ e)
  exact ⟨mA, ⟨ob, n, ne⟩, r, q, z, d⟩
end
structure Cls (K : PySem.W.Frag) (C : Addr) : Prop where
  pg : PySem.W.plainGet K C Str.empty = true
  hd : PySem.W.hasDictIn K C = true
  po : PySem.W.plainOver K C = true
  sa : PySem.W.findIn K (.ref C) "__setattr__" = some (some (.builtin "object.__setattr__"))
theorem Cls.get {K : PySem.W.Frag} {C : Addr} (c : Cls K C) (f : Str) : PySem.W.plainGet K C f = true := c.pg
section
variable {X : Cx} {pins : List (Addr × Obj)} {σ : St} {H : Hp} {s : Shared} {a C dx : Addr} {fs : List (Str × V)} {f : Str} {v : V} {A : Around} {E : Value → Shared → Prop}
end
section
variable {X : Cx} {o e value : Expr} {f : Str} {pos pos' tpos : Pos} {ta tv : TE}
end
section
variable {X : Cx} {pins : List (Addr × Obj)} {σ : St} {H : Hp} {s : Shared} {A : Around} {E : Value → Shared → Prop} {Q : Value → Shared → Prop} {c : Value} {b : Bool}
inductive TyOf (K : PySem.W.Frag) (H : Hp) : V → Value → Prop where
  | non : TyOf K H .non (.type "NoneType")
  | bl (x : Bool) : TyOf K H (.bl x) (.type "bool")
  | int (i : Int) : TyOf K H (.int i) (.type "int")
  | str (x : Str) : TyOf K H (.str x) (.type "str")
  | flt (x : UInt64) : TyOf K H (.flt x) (.type "float")
  | lst {a : Addr} {xs : List V} (e : H a = some (.lst xs)) : TyOf K H (.ref a) (.type "list")
  | frz {a : Addr} {o : Obj} {xs : List V} (e : H a = some (.frz o (.lst xs))) : TyOf K H (.ref a) (.type "list")
  | tup {a : Addr} {xs : List V} (e : H a = some (.tup xs)) : TyOf K H (.ref a) (.type "tuple")
  | dK {a : Addr} {kvs : List (Key × V)} (e : H a = some (.dK kvs)) : TyOf K H (.ref a) (.type "dict")
  | dT {a : Addr} {kvs : List (List Key × V)} (e : H a = some (.dT kvs)) : TyOf K H (.ref a) (.type "dict")
  | ins {a C dx : Addr} {fs : List (Str × V)} (e : H a = some (.ins C dx fs)) (cl : Cls K C) (ha : PySem.W.findIn K (.ref C) "__class__" = some (some (.builtin "object.__class__")))
      (hn : PySem.W.specialIn K (.builtin "object.__class__") "__get__" = some (some (.builtin "getset_descriptor.__get__"))) (htk : PySem.W.takesIn K (.builtin "object.__class__") = some true)
      (hm : PySem.W.mroIn K C (.type "object") = some true) : TyOf K H (.ref a) (.ref C)
theorem isinst_ok {x : V} {u t : Value} (I : Inv X pins σ H s) (rx : RelV x u) (ty : TyOf X.K H x t) (e : PySem.W.kitOne X.K t c = some b) (h : ∀ tk, Q (.bool b) { s with toks := tk }) :
    wpAny (model X.prog X.w) A (call (.builtin "isinstance") [u, c]) Q E s := by
  cases ty with
  | non => cases (show u = Value.none from rx); exact PySem.W.kia_one PySem.W.kitx_none I.kIn True.intro e (fun z => nomatch z) h
  | bl y => cases (show u = Value.bool y from rx); exact PySem.W.kia_one PySem.W.kitx_bool I.kIn True.intro e (fun z => nomatch z) h
  | int i => obtain ⟨t, q⟩ := (show ∃ t, u = Value.int i t from rx); cases q; exact PySem.W.kia_one PySem.W.kitx_int I.kIn True.intro e (fun z => nomatch z) h
  | str y => obtain ⟨t, q⟩ := (show ∃ t, u = Value.str y t from rx); cases q; exact PySem.W.kia_one PySem.W.kitx_str I.kIn True.intro e (fun z => nomatch z) h
  | flt y => obtain ⟨t, q⟩ := (show ∃ t, u = Value.float y t from rx); cases q; exact PySem.W.kia_one PySem.W.kitx_float I.kIn True.intro e (fun z => nomatch z) h
  | @lst a xs ea =>
    cases (show u = Value.ref a from rx)
    obtain ⟨_, _, n, _, h1⟩ := (show ObjOk X.prog X.w H s.heap a (.lst xs) from I.hok a _ ea)
    exact PySem.W.kia_one PySem.W.kitx_list I.kIn ⟨_, h1, rfl⟩ e (fun z => nomatch z) h
  | @frz a ob xs ea =>
    cases (show u = Value.ref a from rx)
    obtain ⟨_, _, _, n, _, h1⟩ := (show ObjOk X.prog X.w H s.heap a (.frz ob (.lst xs)) from I.hok a _ ea)
    exact PySem.W.kia_one PySem.W.kitx_list I.kIn ⟨_, h1, rfl⟩ e (fun z => nomatch z) h
  | @tup a xs ea =>
    cases (show u = Value.ref a from rx)
    obtain ⟨_, _, _, p⟩ := (show ObjOk X.prog X.w H s.heap a (.tup xs) from I.hok a _ ea)
    obtain ⟨o, h1, h2, _⟩ := p
    exact PySem.W.kia_one PySem.W.kitx_tuple I.kIn ⟨o, h1, h2⟩ e (fun z => nomatch z) h
  | @dK a kvs ea =>
    cases (show u = Value.ref a from rx)
    obtain ⟨_, _, vs, _, p⟩ := (show ObjOk X.prog X.w H s.heap a (.dK kvs) from I.hok a _ ea)
    obtain ⟨o, es, ep, h1, h2, _⟩ := p
    exact PySem.W.kia_one PySem.W.kitx_dict I.kIn ⟨o, h1, h2.1⟩ e (fun z => nomatch z) h
  | @dT a kvs ea =>
    cases (show u = Value.ref a from rx)
    obtain ⟨_, _, xs, _, o, es, ep, h1, h2, _⟩ := (show ObjOk X.prog X.w H s.heap a (.dT kvs) from I.hok a _ ea)
    exact PySem.W.kia_one PySem.W.kitx_dict I.kIn ⟨o, h1, h2.1⟩ e (fun z => nomatch z) h
  | @ins a C dx fs ea cl ha hn htk hm =>
    cases (show u = Value.ref a from rx)
    obtain ⟨mA, O, _⟩ := ins_get I.hok ea
    obtain ⟨od, J, _⟩ := O.look
    exact PySem.W.kia_one (PySem.W.kitx_own (cl.get _) cl.hd ha hn htk hm) I.kIn J e (fun z => nomatch z) h
end
end L2
namespace L2
open PySem PySem.Spec PyProof.Rows
structure Room (k : Nat) (A : Around) : Prop where
  hd : A.handled = none
  dp : A.depth + 3 * k + 5 < recursionLimit
  un : A.units + 16 * k + 200 < cLine
theorem Room.mono {j k : Nat} {A : Around} (r : Room k A) (h : j ≤ k) : Room j A := ⟨r.hd, by have := r.dp; omega, by have := r.un; omega⟩
theorem Room.deeper {k : Nat} {A : Around} (r : Room (k + 1) A) (env : Env) : Room k (A.deeper env) :=
  ⟨r.hd, by have := r.dp; show A.depth + 1 + 3 * k + 5 < _; omega, by have := r.un; show A.units + 3 + 16 * k + 200 < _; omega⟩
theorem Room.depth {k : Nat} {A : Around} (r : Room k A) : A.depth < recursionLimit := by have := r.dp; omega
theorem Room.units {k : Nat} {A : Around} (r : Room k A) : A.units + 64 < cLine := by have := r.un; omega
theorem Room.units0 {k : Nat} {A : Around} (r : Room k A) : A.units < cLine := by have := r.un; omega
noncomputable def tNil : TA := fun _ H Q => Q [] H
noncomputable def tCons (ta : TE) (tr : TA) : TA := fun σ H Q => ta σ H fun x H1 => tr σ H1 fun xs H2 => Q (x :: xs) H2
section
variable {X : Cx} {e : Expr} {es : List Expr} {te : TE} {t : TA} {pos : Pos}
theorem pa_nil : PA X [] tNil := fun _ _ _ _ H Q I h => Calls.spliced_nil ⟨[], H, I, .nil, h⟩
theorem pa_cons (ha : PE X e te) (hr : PA X es t) (hs : starEach (e :: es) X.env = (false, eval e X.env) :: starEach es X.env := by rfl) : PA X (e :: es) (tCons te t) := by
  intro pos pins s σ H Q I h
  rw [hs]
  show wpAny _ _ (spliced ((false, eval e X.env) :: backTo pos (starEach es X.env))) _ _ s
  refine Calls.spliced_cons (thn (ha pins s σ H _ I h) fun u s1 ⟨x, H1, I1, r1, q1⟩ => ?_)
  exact thn (hr pos pins s1 σ H1 _ I1 q1) fun us s2 ⟨xs, H2, I2, r2, q2⟩ => ⟨x :: xs, H2, I2, .cons r1 r2, q2⟩
noncomputable def tTup (t : TA) : TE := fun σ H Q => t σ H fun xs H1 => xs.length ≤ sizeLine ∧ ∀ p, H1 p = none → Q (.ref p) (upd H1 p (.tup xs))
noncomputable def tLst (t : TA) : TE := fun σ H Q => t σ H fun xs H1 => xs.length ≤ sizeLine ∧ ∀ p, H1 p = none → Q (.ref p) (upd H1 p (.lst xs))
theorem pe_tup {x1} (h : PA X es t) : PE X (.Tuple es x1 pos) (tTup t) := by
  intro pins s σ H Q I hq
  refine wpAny_Tuple_spliced (thn (h pos pins s σ H _ I hq) fun us s1 ⟨xs, H1, I1, r, z, q⟩ => ⟨by rw [← r.length]; exact z, ?_⟩)
  have hf : H1 s1.heap.objs.size = none := I1.hok.fresh (Nat.le_refl _)
  refine ⟨.ref s1.heap.objs.size, upd H1 s1.heap.objs.size (.tup xs), I1.laid (t' := s1.toks) (fun b u e => Heap.get?_push_of_some _ e) (Nat.le_refl _) ?_, rfl, q _ hf⟩
  exact ⟨z, us, r, ⟨_, Heap.get?_push_size _ rfl, rfl, _, rfl⟩⟩
theorem pe_lst (h : PA X es t) : PE X (.List es pos) (tLst t) := by
  intro pins s σ H Q I hq
  refine wpAny_List_spliced (thn (h pos pins s σ H _ I hq) fun us s1 ⟨xs, H1, I1, r, z, q⟩ => ⟨by rw [← r.length]; exact z, ?_⟩)
  have hf : H1 s1.heap.objs.size = none := I1.hok.fresh (Nat.le_refl _)
  refine ⟨.ref s1.heap.objs.size, upd H1 s1.heap.objs.size (.lst xs), I1.laid (t' := s1.toks) (fun b u e => Heap.get?_push_of_some _ e) (Nat.le_refl _) ?_, rfl, q _ hf⟩
  exact ⟨z, us, 0, r, Heap.get?_push_size _ rfl⟩
end
noncomputable abbrev Sp := List V → Hp → VK → XK → Prop
noncomputable abbrev CXT := List Env → Hp → Shared → XK → Value → Shared → Prop
structure Env0 (P : Program) (w : World) (K : PySem.W.Frag) (mg : Str → Option Value) (base : Heap) (A : Around) (outer : List Env) (s : Shared) (H : Hp) : Prop where
  frames : A.frames = some outer
  mod : Mod K mg base
  bs : ∀ b o, base.get? b = some o → s.heap.get? b = some o ∧ H b = none
  bsz : base.objs.size ≤ s.heap.objs.size
  funs : s.heap.FunFrames base outer
  frf : ∀ b ∈ frs outer, H b = none
  hok : HOk P w H s.heap
  bare : AllBare s.gens
noncomputable def CE (outer : List Env) (P : Program) (w : World) (H : Hp) (s : Shared) (Q : VK) (u : Value) (s' : Shared) : Prop :=
  ∃ v H', s'.os = s.os ∧ AllBare s'.gens ∧ Un (frs outer) [] H H' s.heap s'.heap ∧ HOk P w H' s'.heap ∧ RelV v u ∧ Q v H'
noncomputable def CR (CX : CXT) (outer : List Env) (P : Program) (w : World) (H : Hp) (s : Shared) (Q : VK) (E : XK) (r : Result) (s' : Shared) : Prop :=
  match r with
  | .ok (.ret u) => CE outer P w H s Q u s'
  | .ok _ => False
  | .error e => CX outer H s E e s'
structure FnOk (P : Program) (w : World) (K : PySem.W.Frag) (mg : Str → Option Value) (base : Heap) (CX : CXT) (k : Nat) (f : Addr) (fd : FuncData) (ps : List Str) (sp : Sp) : Prop where
  len : ∀ vs H Q E, sp vs H Q E → vs.length = ps.length
  run : ∀ (A : Around) (outer : List Env) (s : Shared) (H : Hp) (args : Args) (us : List Value) (vs : List V) (Q : VK) (E : XK), Room k A → Env0 P w K mg base A outer s H → BindsTo s fd args (ps.zip us) → Vals vs us → sp vs H Q E →
    codeAny (model P w) A (.call (.ref f) args) (CR CX outer P w H s Q E) s
theorem FnOk.mono {P : Program} {w : World} {K : PySem.W.Frag} {mg : Str → Option Value} {base : Heap} {CX : CXT} {j k : Nat} {f : Addr} {fd : FuncData} {ps : List Str} {sp : Sp} (F : FnOk P w K mg base CX j f fd ps sp) (h : j ≤ k) :
    FnOk P w K mg base CX k f fd ps sp := ⟨F.len, fun A outer s H args us vs Q E hr => F.run A outer s H args us vs Q E (hr.mono h)⟩
section
variable {X : Cx} {pins : List (Addr × Obj)} {σ : St} {H : Hp} {s s' : Shared}
theorem Inv.env0 (I : Inv X pins σ H s) : Env0 X.prog X.w X.K X.mg X.base X.A X.stack s H :=
  ⟨I.ok.frames, I.ok.mod, I.bs, Nat.le_trans I.ok.bsz I.sz, I.stack, I.stkFree, I.hok, I.bare⟩
theorem Inv.after {Q : VK} {u : Value} (I : Inv X pins σ H s) (h : CE X.stack X.prog X.w H s Q u s') : EP X pins σ Q u s' := by
  obtain ⟨v, H', os, bare, un, hok, r, q⟩ := h
  obtain ⟨hh, g, d, t, os'⟩ := s'
  obtain rfl : os' = s.os := os
  exact ⟨v, H', I.call (h' := hh) (g' := g) (d' := d) (t' := t) (ch := []) un hok bare (fun b z => absurd z (by simp)), r, q⟩
end
noncomputable def tCall (sp : Sp) (dvs : List V) (E : XK) (t : TA) : TE := fun σ H Q => t σ H fun vs H1 => sp (vs ++ dvs) H1 Q E
noncomputable def Binds (K : PySem.W.Frag) (fd : FuncData) (ps : List Str) (ds : List Value) : Prop :=
  ∀ (s : Shared) (us : List Value), K.In s.heap → (us ++ ds).length = ps.length → BindsTo s fd ⟨us, []⟩ (ps.zip (us ++ ds))
theorem Binds.all {K : PySem.W.Frag} {fd : FuncData} {ps : List Str} (h : ∀ us : List Value, us.length = ps.length → bindArgs fd ⟨us, []⟩ = pure (ps.zip us)) : Binds K fd ps [] := fun s us _ hl => by
  rw [List.append_nil] at hl ⊢
  exact .of_eq (h us hl)
noncomputable def Passes (CX : CXT) (X : Cx) (E : XK) : Prop := ∀ (pins : List (Addr × Obj)) (σ : St) (H : Hp) (s : Shared) (e : Value) (s' : Shared), Inv X pins σ H s → CX X.stack H s E e s' → X.xe e s'
section
variable {X : Cx} {CX : CXT} {k : Nat} {f C : Addr} {fd : FuncData} {ps : List Str} {sp : Sp} {dvs : List V} {ds : List Value} {E : XK} {x m : Str} {p pos apos : Pos} {e o : Expr} {es : List Expr} {ta : TE} {t : TA}
theorem run_fn {pins : List (Addr × Obj)} {σ : St} {H : Hp} {s : Shared} {Q : VK} {us : List Value} {vs : List V} (F : FnOk X.prog X.w X.K X.mg X.base CX k f fd ps sp) (hr : Room k X.A) (hb : Binds X.K fd ps ds) (hd : Vals dvs ds) (hx : Passes CX X E)
    (I : Inv X pins σ H s) (r : Vals vs us) (h : sp (vs ++ dvs) H Q E) : wpAny (model X.prog X.w) X.A (call (.ref f) us) (EP X pins σ Q) X.xe s := by
  have r2 : Vals (vs ++ dvs) (us ++ ds) := r.append hd
  have hl : (us ++ ds).length = ps.length := by rw [← r2.length]; exact F.len _ _ _ _ h
  refine wpAny_call (codeAny_mono (F.run X.A X.stack s H ⟨us, []⟩ (us ++ ds) (vs ++ dvs) Q E hr I.env0 (hb s us I.kIn hl) r2 h) fun r s' hq => ?_)
  cases r with
  | error e => exact hx pins σ H s e s' I hq
  | ok fl =>
    cases fl with
    | ret u => exact I.after hq
    | next => exact False.elim hq
    | brk => exact False.elim hq
    | cont => exact False.elim hq
theorem pe_call (F : FnOk X.prog X.w X.K X.mg X.base CX k f fd ps sp) (hr : Room k X.A) (hg : Gl X x) (hm : X.mg x = some (.ref f)) (hk : PySem.W.keepIn X.K (.ref f) = true) (hb : Binds X.K fd ps ds) (hd : Vals dvs ds) (hx : Passes CX X E)
    (ha : PA X (e :: es) t) (hdb : (x == ("__debug__" : Str)) = false := by decide) (he : starEach (e :: es) X.env = (false, eval e X.env) :: starEach es X.env := by rfl) (hpl : (backTo pos (starEach es X.env)).any (·.1) = false := by rfl) :
    PE X (.Call (.Name x p) (e :: es) [] pos) (tCall sp dvs E t) := by
  intro pins s σ H Q I h
  refine wpAny_Call_Name_kw (ld_glob I hg hm ?_ hdb)
  refine PySem.W.callWith_K (h₀ := X.base) I.ok.mod.kin hk (thn (ha pos pins s σ H _ I h) fun us s1 ⟨vs, H1, I1, r, q⟩ => ⟨I1.kIn, ?_⟩) he hpl
  exact run_fn F hr hb hd hx I1 r q
end
section
variable {X : Cx} {CX : CXT} {k : Nat} {f C : Addr} {fd : FuncData} {ps ks : List Str} {sp : Sp} {E : XK} {x m : Str} {p pos apos kpos : Pos} {e o : Expr} {es : List Expr} {kws : List Keyword} {te ta : TE} {t tk : TA} {nm : Option Str}
variable {g : List Value → List Value → List Value} {gV : List V → List V → List V}
end
structure FnScope (N P : List Str) (sc : Scope) : Prop where
  kind : sc.kind = .function
  co : sc.isCoroutine = false
  gen : sc.isGenerator = false
  nd : N.Nodup
  pre : N.take P.length = P
  par : ∀ x ∈ P, sc.names.lookup x = some .local ∨ sc.names.lookup x = some .cell
  nofree : ∀ y ∈ sc.names, y.2 ≠ .free
theorem bindL_out {kindOf : Str → Option NameKind} {x : Str} : ∀ {binds : List (Str × Value)} {m : Str → Option Value}, (∀ v, (x, v) ∉ binds) → bindL kindOf binds m x = m x
  | [], _, _ => rfl
  | (n, v) :: r, m, h => by
    unfold bindL
    rw [bindL_out fun w hw => h w (List.mem_cons_of_mem _ hw)]
    split
    · have : x ≠ n := by rintro rfl; exact h v List.mem_cons_self
      simp [this]
    · rfl
theorem bindC_out {kindOf : Str → Option NameKind} {x : Str} : ∀ {binds : List (Str × Value)} {m : Str → Option Value}, (∀ v, (x, v) ∉ binds) → bindC kindOf binds m x = m x
  | [], _, _ => rfl
  | (n, v) :: r, m, h => by
    unfold bindC
    rw [bindC_out fun w hw => h w (List.mem_cons_of_mem _ hw)]
    split
    · rfl
    · have : x ≠ n := by rintro rfl; exact h v List.mem_cons_self
      simp [this]
theorem bindL_get {kindOf : Str → Option NameKind} {x : Str} {v : Value} : ∀ {P : List Str} {vs : List Value} {i : Nat} {m : Str → Option Value}, P.Nodup → P[i]? = some x → vs[i]? = some v → kindOf x = some .local →
    bindL kindOf (P.zip vs) m x = some v
  | [], _, _, _, _, h, _, _ => by simp at h
  | _ :: _, [], _, _, _, _, h, _ => by simp at h
  | p :: P, w :: vs, 0, m, nd, h1, h2, hk => by
    simp at h1 h2; subst h1; subst h2
    show bindL kindOf ((p, w) :: P.zip vs) m p = _
    unfold bindL
    rw [bindL_out fun v hv => (List.nodup_cons.mp nd).1 (List.of_mem_zip hv).1, if_pos hk]
    simp
  | p :: P, w :: vs, i + 1, m, nd, h1, h2, hk => by
    show bindL kindOf ((p, w) :: P.zip vs) m x = _
    unfold bindL
    exact bindL_get (i := i) (List.nodup_cons.mp nd).2 (by simpa using h1) (by simpa using h2) hk
theorem bindC_get {kindOf : Str → Option NameKind} {x : Str} {v : Value} : ∀ {P : List Str} {vs : List Value} {i : Nat} {m : Str → Option Value}, P.Nodup → P[i]? = some x → vs[i]? = some v → kindOf x ≠ some .local →
    bindC kindOf (P.zip vs) m x = some v
  | [], _, _, _, _, h, _, _ => by simp at h
  | _ :: _, [], _, _, _, _, h, _ => by simp at h
  | p :: P, w :: vs, 0, m, nd, h1, h2, hk => by
    simp at h1 h2; subst h1; subst h2
    show bindC kindOf ((p, w) :: P.zip vs) m p = _
    unfold bindC
    rw [bindC_out fun v hv => (List.nodup_cons.mp nd).1 (List.of_mem_zip hv).1, if_neg hk]
    simp
  | p :: P, w :: vs, i + 1, m, nd, h1, h2, hk => by
    show bindC kindOf ((p, w) :: P.zip vs) m x = _
    unfold bindC
    exact bindC_get (i := i) (List.nodup_cons.mp nd).2 (by simpa using h1) (by simpa using h2) hk
noncomputable def start (N : List Str) (vs : List V) : St := vs.map some ++ List.replicate (N.length - vs.length) none
noncomputable def cxOf (CX : CXT) (P : Program) (w : World) (K : PySem.W.Frag) (mg : Str → Option Value) (base : Heap) (N : List Str) (qual : Str) (scope : Scope) (f : Addr) (cd : Value) (A : Around) (outer : List Env) (s : Shared) (H : Hp) (E : XK) : Cx where
  prog := P
  w := w
  K := K
  mg := mg
  base := base
  A := A.deeper (envOfC qual scope s.heap.objs.size f cd)
  N := N
  s₀ := s
  H₀ := H
  env := envOfC qual scope s.heap.objs.size f cd
  outer := outer
  stack := envOfC qual scope s.heap.objs.size f cd :: outer
  ex := []
  calm := true
  fn := fun _ => true
  pn := []
  xe := fun e s' => wpAny (model P w) (A.deeper (envOfC qual scope s.heap.objs.size f cd)) (leaving (envOfC qual scope s.heap.objs.size f cd) e) (fun _ s'' => CX outer H s E e s'') (fun e' s'' => CX outer H s E e' s'') s'
theorem cell_has {sc : Scope} {n : Nat} {x : Str} (h : sc.names.lookup x = some .cell) : ∃ c, (cellsFrom n sc.names []).lookup x = some c := by
  have q := PySem.W.cellsFrom_some sc.names n [] (.inl h)
  exact Option.isSome_iff_exists.mp q
theorem inv_start {CX : CXT} {P : Program} {w : World} {K : PySem.W.Frag} {mg : Str → Option Value} {base : Heap} {N ps : List Str} {qual : Str} {scope : Scope} {f : Addr} {cd : Value} {A : Around} {outer : List Env} {s s1 : Shared} {H : Hp} {E : XK} {us : List Value} {vs : List V}
    (S : FnScope N ps scope) (hd : A.handled = none) (e0 : Env0 P w K mg base A outer s H) (hl : vs.length = ps.length) (r : Vals vs us)
    (x : InCallC s s.heap.objs.size (bindL (envOfC qual scope s.heap.objs.size f cd).kindOf (ps.zip us) fun _ => none) (cellsFrom (s.heap.objs.size + 1) scope.names []) (bindC (envOfC qual scope s.heap.objs.size f cd).kindOf (ps.zip us) fun _ => none) s1) :
    Inv (cxOf CX P w K mg base N qual scope f cd A outer s H E) [] (start N vs) H s1 := by
  have hpl : ps.length ≤ N.length := by have := congrArg List.length S.pre; rw [List.length_take] at this; omega
  obtain ⟨h1, tk, rfl, hk⟩ := x.done
  have noA : ∀ b : Addr, b ∉ (cxOf CX P w K mg base N qual scope f cd A outer s H E).ex := fun b z => absurd (show b ∈ ([] : List Addr) from z) (by simp)
  refine ⟨⟨e0.mod, S.kind, rfl, rfl, Nat.le_refl _, fun y z c h1 h2 => ?_, fun y hy => ?_, fun y c _ h => ?_, fun _ => hd, Around.frames_deeper e0.frames, .inr ⟨rfl, rfl⟩, fun b z => absurd z (noA b), e0.bs, e0.bsz, fun b _ _ => noA b, fun b z => absurd z (noA b), e0.funs, e0.frf⟩,
    rfl, e0.bare, Un.kept hk, ⟨_, x.toInCall.ns, fun i y v h1 h2 h3 => ?_⟩, fun y c h => ⟨_, x.cell y c h⟩, e0.hok.fresh (Nat.le_refl _), fun y c h => ?_, fun p hp => absurd (show p ∈ ([] : List (Addr × Obj)) from hp) (by simp), e0.hok.kept hk, ?_⟩
  · exact name_of_addr x.apart (PySem.mem_of_lookup h1) (PySem.mem_of_lookup h2)
  · have hy : scope.names.lookup y = some .cell ∨ scope.names.lookup y = some .free := hy
    rcases hy with hy | hy
    · exact cell_has hy
    · exact absurd rfl (S.nofree _ (PySem.mem_of_lookup hy))
  · exact Nat.le_of_lt (x.above y c (PySem.mem_of_lookup h))
  · have hi : i < vs.length := by
      unfold start at h2
      by_cases hi : i < vs.length
      · exact hi
      · rw [List.getElem?_append_right (by simpa using hi)] at h2
        rw [List.getElem?_replicate] at h2
        split at h2 <;> cases h2
    have ha : vs[i]? = some v := by
      unfold start at h2
      rw [List.getElem?_append_left (by simpa using hi), List.getElem?_map] at h2
      cases e : vs[i]? with
      | none => rw [e] at h2; cases h2
      | some a => rw [e] at h2; cases h2; rfl
    obtain ⟨u, hu, rv⟩ := r.get ha
    have hp : ps[i]? = some y := by
      rw [← S.pre, List.getElem?_take_of_lt (by omega)]; exact h1
    have ndP : ps.Nodup := by rw [← S.pre]; exact S.nd.sublist (List.take_sublist _ _)
    refine ⟨u, rv, ?_⟩
    rcases S.par y (List.mem_of_getElem? hp) with k | k
    · exact .inl ⟨k, bindL_get ndP hp hu k⟩
    · obtain ⟨c, e⟩ := cell_has (n := s.heap.objs.size + 1) k
      refine .inr ⟨.inl k, c, e, ?_⟩
      have q := x.cell y c e
      rw [bindC_get ndP hp hu (by show scope.names.lookup y ≠ _; rw [k]; decide)] at q
      exact q
  · exact e0.hok.fresh (Nat.le_of_lt (x.above y c (PySem.mem_of_lookup h)))
  · unfold start
    show _ = N.length
    rw [List.length_append, List.length_map, List.length_replicate]
    omega
theorem fn_of {CX : CXT} {P : Program} {w : World} {K : PySem.W.Frag} {mg : Str → Option Value} {base : Heap} {k : Nat} {f : Addr} {name qual : Str} {params : Arguments} {body : List Stmt} {scope : Scope} {dV kV doc pm cdv ct oc : Value} {an od : Option Addr}
    {osl : Array (Option Value)} {N ps : List Str} {sp : Sp} (lk : K.lookup f = some ⟨oc, od, .func (PySem.W.fnOf name qual params body scope dV kV doc pm an cdv ct), osl⟩) (hcd : PySem.W.codeIn K cdv qual = true) (S : FnScope N ps scope)
    (len : ∀ vs H Q E, sp vs H Q E → vs.length = ps.length)
    (hbody : ∀ (A : Around) (outer : List Env) (s : Shared) (H : Hp) (vs : List V) (Q : VK) (E : XK), Room k (A.deeper (envOfC qual scope s.heap.objs.size f cdv)) → sp vs H Q E →
      ∃ t, PSs (cxOf CX P w K mg base N qual scope f cdv A outer s H E) body t ∧ t { nx := fun _ H' => Q .non H', rt := Q } (start N vs) H) :
    FnOk P w K mg base CX (k + 1) f (PySem.W.fnOf name qual params body scope dV kV doc pm an cdv ct) ps sp := by
  refine ⟨len, fun A outer s H args us vs Q E hr e0 hb r hsp => ?_⟩
  have hl := len _ _ _ _ hsp
  have KX : K.In s.heap := e0.mod.kin.keeps fun b o e => (e0.bs b o e).1
  have lim : s.heap.NoLimit := e0.mod.nolimit.keeps fun b o e => (e0.bs b o e).1
  have hkind : ∀ y ∈ ps.zip us, scope.names.lookup y.1 = some .local ∨ (scope.names.lookup y.1 = some .cell ∧ ((cellsFrom (s.heap.objs.size + 1) scope.names []).lookup y.1).isSome = true) := fun ⟨n, v⟩ hy => by
    rcases S.par n (List.of_mem_zip hy).1 with q | q
    · exact .inl q
    · exact .inr ⟨q, PySem.W.cellsFrom_some _ _ _ (.inl q)⟩
  refine codeAny_call_function hr.depth (KX _ _ lk) rfl S.co S.gen rfl (PySem.W.codeRec_of KX hcd) (hb _ _ _ _ ?_)
  refine wpAny_newFunctionEnv_cells S.kind hkind fun env he s1 x => ?_
  subst he
  refine ⟨lim.keeps x.toInCall.keep, codeAny_func ?_⟩
  obtain ⟨t, ht, hq⟩ := hbody A outer s H vs Q E (hr.deeper _) hsp
  have I : Inv (cxOf CX P w K mg base N qual scope f cdv A outer s H E) [] (start N vs) H s1 := inv_start S hr.hd e0 hl r x
  refine wpAny_mono (ht [] s1 (start N vs) H _ I hq) (fun fl s' hs => ?_) fun e s' hs => hs
  have fin : ∀ {σ' : St} {H' : Hp} {v : V} {u : Value}, Inv (cxOf CX P w K mg base N qual scope f cdv A outer s H E) [] σ' H' s' → RelV v u → Q v H' → CE outer P w H s Q u s' :=
    fun {σ' H' v u} J rv q => ⟨v, H', J.os, J.bare, J.base, J.hok, rv, q⟩
  cases fl with
  | ret u =>
    obtain ⟨v, σ', H', J, rv, q⟩ := hs
    exact fin J rv q
  | next =>
    obtain ⟨σ', H', J, q⟩ := hs
    exact fin (v := V.non) (u := Value.none) J rfl q
  | brk =>
    obtain ⟨_, _, _, q⟩ := hs
    exact False.elim q
  | cont =>
    obtain ⟨_, _, _, q⟩ := hs
    exact False.elim q
end L2
namespace L2
open PySem PySem.Spec PyProof.Rows
section
variable {X : Cx} {x : Str} {p pos : Pos} {e : Expr} {es : List Expr} {t : TA} {id T : String} {r : List V → Hp → VK → Prop}
noncomputable def tCB (r : List V → Hp → VK → Prop) (t : TA) : TE := fun σ H Q => t σ H fun vs H1 => r vs H1 Q
theorem pe_callB (hc : CallR X (.builtin id) r) (hg : Gl X x) (hm : X.mg x = none) (hv : bootBuiltins x = some (.builtin id)) (ha : PA X (e :: es) t) (hn : x ≠ "__name__" := by decide) (hdb : (x == ("__debug__" : Str)) = false := by decide)
    (he : starEach (e :: es) X.env = (false, eval e X.env) :: starEach es X.env := by rfl) (hpl : (backTo pos (starEach es X.env)).any (·.1) = false := by rfl) : PE X (.Call (.Name x p) (e :: es) [] pos) (tCB r t) := by
  intro pins s σ H Q I h
  refine wpAny_Call_Name_kw (ld_blt I hg hm hv ?_ hn hdb)
  exact PyProof.Rows.callWith_builtin1 (thn (ha pos pins s σ H _ I h) fun us s1 ⟨vs, H1, I1, r1, q1⟩ => hc pins s1 σ H1 vs us Q I1 r1 q1) he hpl
theorem pe_callTy (hc : CallR X (.type T) r) (hg : Gl X x) (hm : X.mg x = none) (hv : bootBuiltins x = some (.type T)) (ha : PA X (e :: es) t) (hn : x ≠ "__name__" := by decide) (hdb : (x == ("__debug__" : Str)) = false := by decide)
    (he : starEach (e :: es) X.env = (false, eval e X.env) :: starEach es X.env := by rfl) (hpl : (backTo pos (starEach es X.env)).any (·.1) = false := by rfl) : PE X (.Call (.Name x p) (e :: es) [] pos) (tCB r t) := by
  intro pins s σ H Q I h
  refine wpAny_Call_Name_kw (ld_blt I hg hm hv ?_ hn hdb)
  exact PyProof.Rows.callWith_type1 (thn (ha pos pins s σ H _ I h) fun us s1 ⟨vs, H1, I1, r1, q1⟩ => hc pins s1 σ H1 vs us Q I1 r1 q1) he hpl
end
end L2
namespace HT
open PySem PyProof.Rows
section
open PySem.SeqAt
open PySem.AutoSeq1 (wpAny_loadPart')
open PySem.MeetsSeq PySem.MeetsSeq2 PySem.MeetsSeq3
end
section
variable {prog : Program} {w : World} {A : Around} {E : Value → Shared → Prop} {s : Shared}
theorem cat_tup {t b : Addr} {vs ws : List Value} {Q : Value → Shared → Prop} (ht : IsTup s.heap t vs.toArray) (hb : IsTup s.heap b ws.toArray) (hv : vs ≠ [])
    (h1 : ws = [] → Q (.ref t) s) (h2 : ws ≠ [] → Q (.ref s.heap.objs.size) { s with heap := s.heap.push { cls := .type "tuple", data := .seq (vs ++ ws).toArray } })
    (hsz : vs.length + ws.length ≤ sizeLine) : wpAny (model prog w) A (binaryOp .Add (.ref t) (.ref b)) Q E s := by
  obtain ⟨⟨cls, dd, data, sl⟩, ho, hc, n, hd⟩ := id ht
  obtain ⟨⟨cls2, dd2, data2, sl2⟩, ho2, hc2, n2, hd2⟩ := id hb
  simp only at hc hd hc2 hd2
  subst hc hd hc2 hd2
  have e : vs.toArray ++ ws.toArray = (vs ++ ws).toArray := by simp
  by_cases hw : ws = []
  · exact concat_meets ⟨_, ho, rfl⟩ ⟨_, ho2, rfl⟩ noFill_tuple_add seq_tuple_add PySem.F.slot_tuple_add PySem.F.entry_tuple_add (PySem.F.args_tuple_add_2 _ _)
      (tuple_addW1 t b vs.toArray ws.toArray n n2 dd dd2 sl sl2 (by simpa using hv) (by simp [hw])) ⟨ho, ho2, h1 hw⟩
  · refine concat_meets ⟨_, ho, rfl⟩ ⟨_, ho2, rfl⟩ noFill_tuple_add seq_tuple_add PySem.F.slot_tuple_add PySem.F.entry_tuple_add (PySem.F.args_tuple_add_2 _ _)
      (tuple_addW2 t b vs.toArray ws.toArray n n2 dd dd2 sl sl2 (by simpa using hv) (by simpa using hw) (by rw [List.size_toArray, List.size_toArray]; exact hsz)) ⟨ho, ho2, ?_⟩
    rw [e]
    exact h2 hw
noncomputable def sIx (n d : Nat) : Option Int → Nat
  | none => d
  | some v => if v < 0 then (v + (n : Int)).toNat else min v.toNat n
theorem sIx_none (n d : Nat) : sIx n d none = d := rfl
theorem sIx_nat (n d k : Nat) : sIx n d (some (k : Int)) = min k n := by
  show (if (k : Int) < 0 then ((k : Int) + (n : Int)).toNat else min (k : Int).toNat n) = min k n
  rw [if_neg (by omega), Int.toNat_natCast]
theorem sIx_le (n d : Nat) (hd : d ≤ n) (o : Option Int) : sIx n d o ≤ n := by
  cases o with
  | none => exact hd
  | some v =>
    show (if v < 0 then (v + (n : Int)).toNat else min v.toNat n) ≤ n
    by_cases hv : v < 0
    · rw [if_pos hv]; omega
    · rw [if_neg hv]; exact Nat.min_le_right _ _
theorem clip_eq (v : Int) (n d : Nat) : (if v < 0 then max (v + (n : Int)) 0 else min v (n : Int)) = ((sIx n d (some v) : Nat) : Int) := by
  show (if v < 0 then max (v + (n : Int)) 0 else min v (n : Int)) = (((if v < 0 then (v + (n : Int)).toNat else min v.toNat n) : Nat) : Int)
  by_cases hv : v < 0
  · simp only [if_pos hv]; omega
  · simp only [if_neg hv]; omega
theorem adjust_gen (lo hi : Option Int) (n : Nat) : Builtin.Slice.sliceAdjust lo hi 1 (n : Int) = (((sIx n 0 lo : Nat) : Int), ((sIx n n hi : Nat) : Int)) := by
  have h1 : ¬ ((1 : Int) < 0) := by omega
  unfold Builtin.Slice.sliceAdjust
  simp only [h1, if_false]
  refine Prod.ext ?_ ?_
  · cases lo with
    | none => rfl
    | some v => exact clip_eq v n 0
  · cases hi with
    | none => rfl
    | some v => exact clip_eq v n n
theorem places_gen (i j : Nat) : Builtin.Slice.slicePlaces (i : Int) (j : Int) 1 = j - i := by
  unfold Builtin.Slice.slicePlaces
  have h1 : (1 : Int) > 0 := by omega
  simp only [h1, if_true, Int.ediv_one]
  split <;> omega
theorem slicePart_ {v : Value} {o : Option Int} {Q : Option Int → Shared → Prop} (p : IsPart v o) (h : Q o s) : wpAny (model prog w) A (Builtin.Slice.slicePartIndex v) Q E s := by
  cases p with
  | none => exact slicePart_none h
  | int i t => exact slicePart_int h
theorem sliceApplied_gen {sl : Addr} {vl vu : Value} {lo hi : Option Int} {n : Nat} {Q : Int × Int × Nat → Shared → Prop} (hs : s.heap.IsSliceOf sl vl vu .none) (pl : IsPart vl lo) (pu : IsPart vu hi)
    (h : Q (((sIx n 0 lo : Nat) : Int), 1, sIx n n hi - sIx n 0 lo) s) : wpAny (model prog w) A (Builtin.Slice.sliceApplied (.ref sl) (pure (n : Int))) Q E s := by
  obtain ⟨os, hos, hcs, hds⟩ := id hs
  unfold Builtin.Slice.sliceApplied Builtin.Slice.sliceFields
  refine wpAny_bind (wpAny_bind (wpAny_field hos hds (x := vl) rfl (wpAny_bind (wpAny_field hos hds (x := vu) rfl (wpAny_bind (wpAny_field hos hds (x := .none) rfl (wpAny_pure ?_)))))))
  refine wpAny_bind (slicePart_none ?_)
  show wpAny _ _ (if ((1 : Int) == 0) = true then _ else _) _ _ s
  rw [if_neg (by decide)]
  refine wpAny_bind (slicePart_ pl (wpAny_bind (slicePart_ pu (wpAny_bind (wpAny_pure ?_)))))
  show wpAny _ _ (match Builtin.Slice.sliceAdjust lo hi 1 (n : Int) with | (lo, hi) => pure (lo, (1 : Int), Builtin.Slice.slicePlaces lo hi 1)) _ _ s
  rw [adjust_gen lo hi n]
  show wpAny _ _ (pure (((sIx n 0 lo : Nat) : Int), (1 : Int), Builtin.Slice.slicePlaces ((sIx n 0 lo : Nat) : Int) ((sIx n n hi : Nat) : Int) 1)) _ _ s
  rw [places_gen]
  exact wpAny_pure h
theorem pick_gen (xs : Array Value) (i k : Nat) : ((List.range k).filterMap fun (m : Nat) => xs[((i : Int) + (m : Int) * 1).toNat]?).toArray = ((xs.toList.drop i).take k).toArray := by
  have e : (fun (m : Nat) => xs[((i : Int) + (m : Int) * 1).toNat]?) = fun m => xs[i + m]? := by
    funext m
    have : ((i : Int) + (m : Int) * 1).toNat = i + m := by omega
    rw [this]
  rw [e]
  have := pick_run xs i k
  rw [List.filterMap_map] at this
  have e2 : ((fun x => xs[x]?) ∘ fun x => i + x) = fun m => xs[i + m]? := rfl
  rw [e2] at this
  rw [this]
theorem getItem_tuple_cut {t sl : Addr} {items : Array Value} {vl vu : Value} {lo hi : Option Int} {Q : Value → Shared → Prop} (ht : IsTup s.heap t items) (hs : s.heap.IsSliceOf sl vl vu .none) (pl : IsPart vl lo) (pu : IsPart vu hi)
    (hw : ¬ (sIx items.size 0 lo = 0 ∧ sIx items.size items.size hi = items.size))
    (h : Q (.ref s.heap.objs.size) { s with heap := s.heap.push { cls := .type "tuple", data := .seq ((items.toList.drop (sIx items.size 0 lo)).take (sIx items.size items.size hi - sIx items.size 0 lo)).toArray } })
    (hsz : items.size ≤ sizeLine) : wpAny (model prog w) A (getItem (.ref t) (.ref sl)) Q E s := by
  have htake : sizeOk (.seq ((items.toList.drop (sIx items.size 0 lo)).take (sIx items.size items.size hi - sIx items.size 0 lo)).toArray) := by
    show ((items.toList.drop (sIx items.size 0 lo)).take (sIx items.size items.size hi - sIx items.size 0 lo)).toArray.size ≤ sizeLine
    rw [List.size_toArray, List.length_take, List.length_drop, Array.length_toList]
    omega
  have hj : sIx items.size items.size hi ≤ items.size := sIx_le _ _ (Nat.le_refl _) hi
  obtain ⟨os, hos, hcs, hds⟩ := id hs
  have hTs : s.TypeIs (.ref sl) "slice" := ⟨os, hos, hcs⟩
  unfold getItem
  try with_reducible refine wpAny_holding ?_
  first | refine wpAny_bind (wpAny_pure ?_) | skip
  refine wpAny_bind (wpAny_sequenceKey ht.typeIs (by decide) ?_)
  refine wpAny_bind (wpAny_callSpecial?_slot (name := Str.ofString "__getitem__") ht.typeIs PyProof.Rows.slot_tuple_getitem
    (wpAny_call_entry PyProof.Rows.slot_tuple_getitem ht.typeIs entry_tuple_getitem ?_ (args_tuple_getitem _ _)))
  show wpAny _ _ (Builtin.Tuple.tupleItemsOf (.ref t) >>= _) _ _ s
  refine wpAny_bind (tupleItemsOf_ ht ?_)
  refine wpAny_bind (wpAny_typeOf hTs ?_)
  rw [if_pos (by decide)]
  refine wpAny_bind (sliceApplied_gen hs pl pu ?_)
  have hno : ¬ ((((sIx items.size 0 lo : Nat) : Int) == 0 && (1 : Int) == 1 && (sIx items.size items.size hi - sIx items.size 0 lo) == items.size) = true) := by
    intro q
    rw [Bool.and_eq_true, Bool.and_eq_true] at q
    have q1 : ((sIx items.size 0 lo : Nat) : Int) = 0 := eq_of_beq q.1.1
    have q2 : sIx items.size items.size hi - sIx items.size 0 lo = items.size := eq_of_beq q.2
    exact hw ⟨by omega, by omega⟩
  show wpAny _ _ (if (((sIx items.size 0 lo : Nat) : Int) == 0 && (1 : Int) == 1 && (sIx items.size items.size hi - sIx items.size 0 lo) == items.size) = true then _ else _) _ _ s
  rw [if_neg hno, pick_gen]
  first
    | exact wpAny_bind (m := Builtin.Tuple.tupleExact _) (wpAny_newObj_type (wpAny_pure ⟨_, rfl, wpAny_pure h⟩) htake)
    | exact wpAny_bind (m := Builtin.Tuple.tupleExact _) (wpAny_newObj_type (wpAny_bind (wpAny_pure (wpAny_pure ⟨_, rfl, wpAny_pure h⟩))) htake)
    | exact wpAny_bind (wpAny_bind (m := Builtin.Tuple.tupleExact _) (wpAny_newObj_type (wpAny_pure (wpAny_pure ⟨_, rfl, wpAny_pure h⟩)) htake))
    | exact wpAny_bind (wpAny_bind (m := Builtin.Tuple.tupleExact _) (wpAny_newObj_type (wpAny_pure ⟨_, rfl, wpAny_pure h⟩) htake))
end
end HT
namespace L2
open PySem PySem.Spec PyProof.Rows
noncomputable abbrev TO := St → Hp → (Option Int → Hp → Prop) → Prop
noncomputable def PO (X : Cx) (e : Option Expr) (t : TO) : Prop :=
  ∀ (pins : List (Addr × Obj)) (s : Shared) (σ : St) (H : Hp) (Q : Option Int → Hp → Prop), Inv X pins σ H s → t σ H Q →
    wpAny (model X.prog X.w) X.A (evalPart e X.env) (fun u s' => ∃ o H', Inv X pins σ H' s' ∧ IsPart u o ∧ Q o H') X.xe s
noncomputable def tNoPart : TO := fun _ H Q => Q none H
section
variable {X : Cx} {e : Expr} {te : TE} {lo hi : Option Expr} {tl th : TO} {pos p2 : Pos}
theorem po_none : PO X none tNoPart := by
  intro pins s σ H Q I h
  rw [evalPart_none]
  exact wpAny_pure ⟨none, H, I, .none, h⟩
noncomputable def SlR (X : Cx) (r : V → Option Int → Option Int → Hp → VK → Prop) : Prop :=
  ∀ (pins : List (Addr × Obj)) (s : Shared) (σ : St) (H : Hp) (x : V) (v vl vu : Value) (lo hi : Option Int) (sl : Addr) (Q : VK), Inv X pins σ H s → RelV x v → s.heap.IsSliceOf sl vl vu .none → IsPart vl lo → IsPart vu hi → r x lo hi H Q →
    ∃ T id, typeLookup (.type T) "__getitem__" = pure (some (.builtin id)) ∧ s.TypeIs v T ∧ wpAny (model X.prog X.w) X.A (getItem v (.ref sl)) (EP X pins σ Q) X.xe s
noncomputable def tSl (r : V → Option Int → Option Int → Hp → VK → Prop) (te : TE) (tl th : TO) : TE := fun σ H Q => te σ H fun x H1 => tl σ H1 fun l H2 => th σ H2 fun u H3 => r x l u H3 Q
theorem pe_slice {r : V → Option Int → Option Int → Hp → VK → Prop} (hr : SlR X r) (he : PE X e te) (hl : PO X lo tl) (hu : PO X hi th) : PE X (.Subscript e (.Slice lo hi none p2) pos) (tSl r te tl th) := by
  intro pins s σ H Q I h
  refine Subscript_ (thn (he pins s σ H _ I h) fun v s1 ⟨x, H1, I1, r1, q1⟩ => ?_)
  refine wpAny_Slice (thn (hl pins s1 σ H1 _ I1 q1) fun vl s2 ⟨l, H2, I2, pl, q2⟩ => thn (hu pins s2 σ H2 _ I2 q2) fun vu s3 ⟨u, H3, I3, pu, q3⟩ => ?_)
  rw [evalPart_none]
  refine wpAny_pure ?_
  have I4 : Inv X pins σ H3 { s3 with heap := s3.heap.push { cls := .type "slice", data := .fields #[vl, vu, .none] } } := I3.kept (t' := s3.toks) fun b ob q => Heap.get?_push_of_some _ q
  obtain ⟨T, id, hT, ht, hg⟩ := hr pins { s3 with heap := s3.heap.push { cls := .type "slice", data := .fields #[vl, vu, .none] } } σ H3 x v vl vu l u s3.heap.objs.size Q I4 r1 (Heap.IsSliceOf.new ..) pl pu q3
  show wpAny (model X.prog X.w) X.A (subscriptTail e (.Slice lo hi none p2) v (.ref s3.heap.objs.size)) (EP X pins σ Q) X.xe { s3 with heap := s3.heap.push { cls := .type "slice", data := .fields #[vl, vu, .none] } }
  exact tail_any (ops := [.ref s3.heap.objs.size, v]) ht hT hg (by with_unfolding_all rfl)
noncomputable def cutV (xs : List V) (lo hi : Option Int) : List V := (xs.drop (HT.sIx xs.length 0 lo)).take (HT.sIx xs.length xs.length hi - HT.sIx xs.length 0 lo)
theorem cutV_length (xs : List V) (lo hi : Option Int) : (cutV xs lo hi).length ≤ xs.length := by
  unfold cutV
  rw [List.length_take, List.length_drop]
  omega
noncomputable def rSlT (K : PySem.W.Frag) : V → Option Int → Option Int → Hp → VK → Prop := fun x lo hi H Q => ∃ a xs, x = .ref a ∧ SqT K H a xs ∧
  ¬ (HT.sIx xs.length 0 lo = 0 ∧ HT.sIx xs.length xs.length hi = xs.length) ∧ ∀ p, H p = none → Q (.ref p) (upd H p (.tup (cutV xs lo hi)))
theorem sl_tup : SlR X (rSlT X.K) := by
  intro pins s σ H x v vl vu lo hi sl Q I rx hs pl pu h
  obtain ⟨a, xs, rfl, hx, hw, q⟩ := h
  cases rx
  obtain ⟨its, r, ht, hz⟩ := I.tuple hx
  have hlen : its.toArray.size = xs.length := by rw [List.size_toArray]; exact r.length.symm
  refine ⟨"tuple", _, PyProof.Rows.slot_tuple_getitem.lookup, ht.typeIs, ?_⟩
  refine HT.getItem_tuple_cut ht hs pl pu (by rw [hlen]; exact hw) ?_ (by rw [hlen]; exact hz)
  rw [hlen]
  refine ⟨.ref s.heap.objs.size, _, I.laid (t' := s.toks) (o := .tup (cutV xs lo hi)) (fun b ob q => Heap.get?_push_of_some _ q) (Nat.le_refl _) ?_, rfl, q _ (I.hok.fresh (Nat.le_refl _))⟩
  exact ⟨Nat.le_trans (cutV_length xs lo hi) hz, _, (r.drop (HT.sIx xs.length 0 lo)).take (HT.sIx xs.length xs.length hi - HT.sIx xs.length 0 lo), IsTup.new _ _⟩
noncomputable def rCatT (K : PySem.W.Frag) : R2 := fun x y H Q => ∃ a b xs ys, x = .ref a ∧ y = .ref b ∧ SqT K H a xs ∧ SqT K H b ys ∧ xs ≠ [] ∧ xs.length + ys.length ≤ sizeLine ∧
  (ys = [] → Q (.ref a) H) ∧ (ys ≠ [] → ∀ p, H p = none → Q (.ref p) (upd H p (.tup (xs ++ ys))))
theorem Vals.nil_iff {xs : List V} {us : List Value} (r : Vals xs us) : us = [] ↔ xs = [] := by
  cases r with
  | nil => simp
  | cons _ _ => simp
theorem op_catT : OpR X (binaryOp .Add) (rCatT X.K) := by
  intro pins s σ H x y v u Q I rx ry h
  obtain ⟨a, b, xs, ys, rfl, rfl, ha, hb, hx, hz, q1, q2⟩ := h
  cases rx
  cases ry
  obtain ⟨its, r1, p1, _⟩ := I.tuple ha
  obtain ⟨its2, r2, p2, _⟩ := I.tuple hb
  refine HT.cat_tup p1 p2 (fun z => hx (r1.nil_iff.mp z)) (fun z => ⟨.ref a, H, I, rfl, q1 (r2.nil_iff.mp z)⟩) (fun z => ?_) (by rw [← r1.length, ← r2.length]; exact hz)
  refine ⟨.ref s.heap.objs.size, _, I.laid (t' := s.toks) (o := .tup (xs ++ ys)) (fun b ob q => Heap.get?_push_of_some _ q) (Nat.le_refl _) ?_, rfl, q2 (fun w => z (r2.nil_iff.mpr w)) _ (I.hok.fresh (Nat.le_refl _))⟩
  exact ⟨by rw [List.length_append]; exact hz, _, r1.append r2, IsTup.new _ _⟩
end
end L2
namespace L2
open PySem PySem.Spec PyProof.Rows
noncomputable def ixN (n : Nat) (i : Int) : Option Nat := if 0 ≤ i then (if i < n then some i.toNat else none) else if -(n : Int) ≤ i then some (i + n).toNat else none
noncomputable def atI {α : Type} (xs : List α) (i : Int) : Option α := (ixN xs.length i).bind fun j => xs[j]?
theorem ixN_seq {n : Nat} {i : Int} {j : Nat} (h : ixN n i = some j) : seqIndex? i n = some j ∧ j < n ∧ -(n : Int) ≤ i ∧ i < n := by
  unfold ixN at h
  by_cases h0 : 0 ≤ i
  · rw [if_pos h0] at h
    by_cases h1 : i < n
    · rw [if_pos h1] at h
      have e : i.toNat = j := Option.some.inj h
      exact ⟨by rw [seqIndex_of h0 h1, e], by omega, by omega, h1⟩
    · rw [if_neg h1] at h; cases h
  · rw [if_neg h0] at h
    by_cases h1 : -(n : Int) ≤ i
    · rw [if_pos h1] at h
      have e : (i + n).toNat = j := Option.some.inj h
      exact ⟨by rw [seqIndex_neg (by omega) h1, e], by omega, h1, by omega⟩
    · rw [if_neg h1] at h; cases h
theorem atI_get {α : Type} {xs : List α} {i : Int} {v : α} (h : atI xs i = some v) : ∃ j, seqIndex? i xs.length = some j ∧ xs[j]? = some v ∧ j < xs.length ∧ -(xs.length : Int) ≤ i ∧ i < xs.length := by
  unfold atI at h
  cases e : ixN xs.length i with
  | none => rw [e] at h; cases h
  | some j =>
    rw [e] at h
    obtain ⟨h1, h2, h3, h4⟩ := ixN_seq e
    exact ⟨j, h1, h, h2, h3, h4⟩
theorem atI_nat {α : Type} {xs : List α} {j : Nat} {v : α} (h : xs[j]? = some v) : atI xs (j : Int) = some v := by
  have hj : j < xs.length := (List.getElem?_eq_some_iff.mp h).1
  have e : ixN xs.length (j : Int) = some j := by
    unfold ixN
    rw [if_pos (by omega), if_pos (by omega)]; simp
  unfold atI; rw [e]; exact h
noncomputable def PlainIx (b : Expr) : Prop := ∀ o i, subscripted b false o i = operate [o, i] (getItem o i)
noncomputable def IxR (X : Cx) (r : R2) : Prop :=
  ∀ (value slice : Expr) (pins : List (Addr × Obj)) (s : Shared) (σ : St) (H : Hp) (x y : V) (v u : Value) (Q : VK), Inv X pins σ H s → RelV x v → RelV y u → r x y H Q →
    subscripted slice false v u = operate [v, u] (getItem v u) → wpAny (model X.prog X.w) X.A (subscriptTail value slice v u) (EP X pins σ Q) X.xe s
noncomputable def MtR (X : Cx) (id : String) (r : V → List V → Hp → VK → Prop) : Prop :=
  ∀ (pins : List (Addr × Obj)) (s : Shared) (σ : St) (H : Hp) (x : V) (xs : List V) (v : Value) (us : List Value) (Q : VK), Inv X pins σ H s → RelV x v → Vals xs us → r x xs H Q →
    wpAny (model X.prog X.w) X.A (call (.builtin id) (v :: us)) (EP X pins σ Q) X.xe s
section
variable {X : Cx} {a b : Expr} {ta tb : TE} {pos : Pos}
theorem pe_ix {r : R2} (hr : IxR X r) (ha : PE X a ta) (hb : PE X b tb) (hs : PlainIx b) : PE X (.Subscript a b pos) (tOp r ta tb) := by
  intro pins s σ H Q I h
  exact Subscript_ (binT ha hb I h fun v u s2 x y H2 I2 rx ry q => hr a b pins s2 σ H2 x y v u Q I2 rx ry q (hs _ _))
noncomputable def rIxL (K : PySem.W.Frag) : R2 := fun x y H Q => ∃ p xs i v, x = .ref p ∧ y = .int i ∧ SqL K H p xs ∧ atI xs i = some v ∧ Q v H
noncomputable def rIxT (K : PySem.W.Frag) : R2 := fun x y H Q => ∃ p xs i v, x = .ref p ∧ y = .int i ∧ SqT K H p xs ∧ atI xs i = some v ∧ Q v H
noncomputable def rIxS : R2 := fun x y H Q => ∃ z i c, x = .str z ∧ y = .int i ∧ z.length ≤ sizeLine ∧ atI z.cps.toList i = some c ∧ Q (.str ⟨#[c]⟩) H
theorem ix_list : IxR X (rIxL X.K) := by
  intro value slice pins s σ H x y v u Q I rx ry h hs
  obtain ⟨p, xs, i, z, rfl, rfl, hq, he, q⟩ := h
  cases rx
  obtain ⟨t, rfl⟩ := ry
  obtain ⟨its, r, pl, hz⟩ := I.list hq
  obtain ⟨j, h1, h2, h3, h4, h5⟩ := atI_get he
  obtain ⟨w, ew, rw'⟩ := r.get h2
  have hl := r.length
  have hn := line63
  have fin : EP X pins σ Q w s := ⟨z, H, I, rw', q⟩
  by_cases h0 : 0 ≤ i
  · have hj : i.toNat = j := by
      rw [seqIndex_of h0 h5] at h1
      exact Option.some.inj h1
    exact item_listR pl.isList h0 (by omega) (by rw [hj]; simpa using ew) fin hs
  · have hj : (i + (its.toArray.size : Int)).toNat = j := by
      rw [seqIndex_neg (by omega) h4] at h1
      rw [List.size_toArray, ← hl]
      exact Option.some.inj h1
    exact subscriptTail_builtinR (x := w) pl.isList.typeIs slot_list_getitem.lookup
      (wpAny_getItem_list_neg (Q := fun r s' => r = w ∧ EP X pins σ Q r s') pl.isList (by omega) (by rw [List.size_toArray] <;> omega) (by omega) (by rw [hj]; simpa using ew) ⟨rfl, fin⟩) hs
theorem ix_tup : IxR X (rIxT X.K) := by
  intro value slice pins s σ H x y v u Q I rx ry h hs
  obtain ⟨p, xs, i, z, rfl, rfl, hq, he, q⟩ := h
  cases rx
  obtain ⟨t, rfl⟩ := ry
  obtain ⟨its, r, pl, hz⟩ := I.tuple hq
  obtain ⟨j, h1, h2, h3, h4, h5⟩ := atI_get he
  obtain ⟨w, ew, rw'⟩ := r.get h2
  have hl := r.length
  have hn := line63
  have fin : EP X pins σ Q w s := ⟨z, H, I, rw', q⟩
  exact subscriptTail_builtinR (x := w) pl.typeIs slot_tuple_getitem.lookup
    (getItem_tuple (j := j) (Q := fun r s' => r = w ∧ EP X pins σ Q r s') pl (by omega) (by omega) (by rw [List.size_toArray, ← hl]; exact h1) (by simpa using ew) ⟨rfl, fin⟩) hs
theorem ix_str : IxR X rIxS := by
  intro value slice pins s σ H x y v u Q I rx ry h hs
  obtain ⟨z, i, c, rfl, rfl, hz, he, q⟩ := h
  obtain ⟨t, rfl⟩ := rx
  obtain ⟨t', rfl⟩ := ry
  obtain ⟨j, h1, h2, h3, h4, h5⟩ := atI_get he
  have hl : z.cps.toList.length = z.length := by simp [Str.length]
  rw [hl] at h1 h4 h5
  have hn := line63
  exact tail_any (typeIs_str s z t) slot_str_getitem.lookup (getItem_str (c := c) (by
    have e1 : decide (i < -(2 ^ 63 : Int)) = false := decide_eq_false (by omega)
    have e2 : decide (i ≥ 2 ^ 63) = false := decide_eq_false (by omega)
    rw [e1, e2, Bool.or_false]) (by rw [h1]; simpa using h2) ⟨.str ⟨#[c]⟩, H, I.tok _, ⟨_, rfl⟩, q⟩) hs
theorem mapSeq_set (its : List Value) (n j : Nat) (u : Value) : Obj.mapSeq (·.setIfInBounds j u) { cls := .type "list", data := .seq its.toArray n } = { cls := .type "list", data := .seq (its.set j u).toArray n } := by
  simp [Obj.mapSeq]
theorem Inv.lst {pins : List (Addr × Obj)} {σ : St} {H : Hp} {s : Shared} {p : Addr} {xs : List V} (I : Inv X pins σ H s) (h : H p = some (.lst xs)) :
    ∃ (its : List Value) (n : Nat), Vals xs its ∧ s.heap.get? p = some { cls := .type "list", data := .seq its.toArray n } ∧ xs.length ≤ sizeLine := by
  obtain ⟨z, its, n, r, e⟩ := I.hok p _ h
  exact ⟨its, n, r, e, z⟩
theorem Inv.lstUpd {pins : List (Addr × Obj)} {σ : St} {H : Hp} {s : Shared} {p : Addr} {xs ys : List V} {its its' : List Value} {n n' : Nat} {f : Obj → Obj} (I : Inv X pins σ H s) (h : H p = some (.lst xs))
    (ho : s.heap.get? p = some { cls := .type "list", data := .seq its.toArray n }) (hf : f { cls := .type "list", data := .seq its.toArray n } = { cls := .type "list", data := .seq its'.toArray n' }) (r : Vals ys its') (hz : ys.length ≤ sizeLine) (t : Nat) :
    Inv X pins σ (upd H p (.lst ys)) { s with heap := s.heap.update p f, toks := t } := by
  have e : (s.heap.update p f).get? p = some { cls := .type "list", data := .seq its'.toArray n' } := by
    rw [Heap.get?_update_self f ho (by rw [hf] <;> rfl), hf]
  refine I.write (x := p) (e := p) (by rw [h]; trivial) (.inl rfl) (fun b u hb q => (Heap.get?_update_other _ _ (Ne.symm hb)).trans q) ⟨_, e⟩ ?_
  exact ⟨hz, its', n', r, e⟩
noncomputable def rSetL : V → V → V → Hp → (Hp → Prop) → Prop := fun o i v H Q => ∃ p xs k j, o = .ref p ∧ i = .int k ∧ H p = some (.lst xs) ∧ ixN xs.length k = some j ∧ Q (upd H p (.lst (xs.set j v)))
theorem set_list : PSet X rSetL := by
  intro pins s σ H o i v ov iv u Q I ro ri rv h
  obtain ⟨p, xs, k, j, rfl, rfl, hp, hj, q⟩ := h
  cases ro
  obtain ⟨t, rfl⟩ := ri
  obtain ⟨its, n, r, ho, hz⟩ := I.lst hp
  obtain ⟨h1, h2, h3, h4⟩ := ixN_seq hj
  have hl := r.length
  have hn := line63
  have I' : Inv X pins σ (upd H p (.lst (xs.set j v))) { s with heap := s.heap.update p (Obj.mapSeq (·.setIfInBounds j u)) } :=
    I.lstUpd hp ho (mapSeq_set its n j u) (r.set rv j) (by rw [List.length_set]; exact hz) s.toks
  by_cases h0 : 0 ≤ k
  · have hk : k.toNat = j := by
      rw [seqIndex_of h0 h4] at h1
      exact Option.some.inj h1
    exact PySem.W.ki_setAt ho h0 (by omega) (by rw [List.size_toArray, ← hl]; exact h4) (by rw [hk]; exact ⟨_, I', q⟩)
  · have hk : (k + (its.toArray.size : Int)).toNat = j := by
      rw [seqIndex_neg (by omega) h3] at h1
      rw [List.size_toArray, ← hl]
      exact Option.some.inj h1
    exact PySem.W.ki_setBack ho (by omega) (by rw [List.size_toArray, ← hl]; exact h3) (by omega) (by rw [hk]; exact ⟨_, I', q⟩)
theorem slice_bounds (lo hi : Option Int) (n : Nat) : (sliceBounds lo hi none n).1 = ((HT.sIx n 0 lo : Nat) : Int) ∧ (sliceBounds lo hi none n).2.1 = ((HT.sIx n n hi : Nat) : Int) ∧ (sliceBounds lo hi none n).2.2 = 1 := by
  refine ⟨?_, ?_, rfl⟩
  · cases lo with
    | none => simp [sliceBounds, HT.sIx]
    | some i =>
      simp only [sliceBounds, HT.sIx, Option.getD_none, show (1 : Int) > 0 by decide, if_true]
      by_cases h : i < 0
      · simp only [h, if_true] <;> omega
      · simp only [h, if_false] <;> omega
  · cases hi with
    | none => simp [sliceBounds, HT.sIx]
    | some i =>
      simp only [sliceBounds, HT.sIx, Option.getD_none, show (1 : Int) > 0 by decide, if_true]
      by_cases h : i < 0
      · simp only [h, if_true] <;> omega
      · simp only [h, if_false] <;> omega
theorem slicePick_cut (its : List Value) (lo hi : Option Int) : slicePick its.toArray lo hi none = ((its.drop (HT.sIx its.length 0 lo)).take (HT.sIx its.length its.length hi - HT.sIx its.length 0 lo)).toArray := by
  obtain ⟨h1, h2, h3⟩ := slice_bounds lo hi its.toArray.size
  unfold slicePick
  rw [h1, h2, h3]
  simp only [sliceRange_one, pick_run, List.size_toArray] <;> rfl
noncomputable def rSlL (K : PySem.W.Frag) : V → Option Int → Option Int → Hp → VK → Prop := fun x lo hi H Q => ∃ a xs, x = .ref a ∧ SqL K H a xs ∧ ∀ p, H p = none → Q (.ref p) (upd H p (.lst (cutV xs lo hi)))
theorem sl_list : SlR X (rSlL X.K) := by
  intro pins s σ H x v vl vu lo hi sl Q I rx hs pl pu h
  obtain ⟨a, xs, rfl, hx, q⟩ := h
  cases rx
  obtain ⟨its, r, ht, hz⟩ := I.list hx
  have hlen := r.length
  refine ⟨"list", _, slot_list_getitem.lookup, ht.isList.typeIs, ?_⟩
  refine wpAny_getItem_list_slice ht.isList hs pl pu .none (by simp) ?_ (by rw [List.size_toArray] <;> omega)
  rw [slicePick_cut, ← hlen]
  refine ⟨.ref s.heap.objs.size, _, I.laid (t' := s.toks) (o := .lst (cutV xs lo hi)) (fun b ob q => Heap.get?_push_of_some _ q) (Nat.le_refl _) ?_, rfl, q _ (I.hok.fresh (Nat.le_refl _))⟩
  exact ⟨Nat.le_trans (cutV_length xs lo hi) hz, _, 0, (r.drop (HT.sIx xs.length 0 lo)).take (HT.sIx xs.length xs.length hi - HT.sIx xs.length 0 lo), Heap.get?_push_size _ rfl⟩
theorem call_len_seq : CallR X (.builtin "len") (fun xs H Q => ∃ p ys, xs = [.ref p] ∧ (SqL X.K H p ys ∨ SqT X.K H p ys) ∧ Q (.int ys.length) H) := by
  intro pins s σ H xs us Q I r h
  obtain ⟨p, ys, rfl, hq, q⟩ := h
  obtain ⟨u, rfl, rx⟩ := vals1 r
  cases rx
  have hn := line63
  rcases hq with hq | hq
  · obtain ⟨its, r', pl, hz⟩ := I.list hq
    have hlen := r'.length
    exact Calls.call_len_list pl.isList (by simp only [List.size_toArray] <;> omega) ⟨.int ys.length, H, I.tok _, ⟨s.toks + 1, by rw [List.size_toArray, hlen]⟩, q⟩
  · obtain ⟨its, r', pl, hz⟩ := I.tuple hq
    have hlen := r'.length
    exact len_tuple pl (by simp only [List.size_toArray] <;> omega) ⟨.int ys.length, H, I.tok _, ⟨s.toks + 1, by rw [List.size_toArray, hlen]⟩, q⟩
theorem call_len_str : CallR X (.builtin "len") (fun xs H Q => ∃ z, xs = [.str z] ∧ z.length ≤ sizeLine ∧ Q (.int z.length) H) := by
  intro pins s σ H xs us Q I r h
  obtain ⟨z, rfl, hz, q⟩ := h
  obtain ⟨u, rfl, t, rfl⟩ := vals1 r
  have hn := line63
  exact len_str (by omega) ⟨.int z.length, H, I.tok _, ⟨_, rfl⟩, q⟩
theorem call_list_of : CallR X (.type "list") (fun xs H Q => ∃ p ys, xs = [.ref p] ∧ (SqL X.K H p ys ∨ SqT X.K H p ys) ∧ ∀ l, H l = none → Q (.ref l) (upd H l (.lst ys))) := by
  intro pins s σ H xs us Q I r h
  obtain ⟨p, ys, rfl, hq, q⟩ := h
  obtain ⟨u, rfl, rx⟩ := vals1 r
  cases rx
  have fin : ∀ (its : List Value), Vals ys its → ys.length ≤ sizeLine → ∀ (h' : Heap) (c' : Nat), (∀ b o', s.heap.get? b = some o' → h'.get? b = some o') →
      h'.get? s.heap.objs.size = some { cls := .type "list", dict := none, data := .seq its.toArray c', slots := #[] } → EP X pins σ Q (.ref s.heap.objs.size) { s with heap := h' } := fun its r' hz h' c' kp e =>
    ⟨.ref s.heap.objs.size, _, I.laid (t' := s.toks) kp (Nat.le_refl _) (show ObjOk X.prog X.w _ h' _ (.lst ys) from ⟨hz, its, c', r', e⟩), rfl, q _ (I.hok.fresh (Nat.le_refl _))⟩
  rcases hq with hq | hq
  · obtain ⟨its, r', pl, hz⟩ := I.list hq
    have hlen := r'.length
    obtain ⟨o, ho, hc, n, hd⟩ := pl.isList
    exact call_list_seq p (.inl rfl) ho hc hd (fun h' c' kp e => fin its r' hz h' c' kp e) (by simp only [List.size_toArray] <;> omega)
  · obtain ⟨its, r', pl, hz⟩ := I.tuple hq
    have hlen := r'.length
    obtain ⟨o, ho, hc, n, hd⟩ := pl
    exact call_list_seq p (.inr rfl) ho hc hd (fun h' c' kp e => fin its r' hz h' c' kp e) (by simp only [List.size_toArray] <;> omega)
theorem call_tuple_of : CallR X (.type "tuple") (fun xs H Q => ∃ p ys, xs = [.ref p] ∧ ((SqL X.K H p ys ∧ ∀ l, H l = none → Q (.ref l) (upd H l (.tup ys))) ∨ (SqT X.K H p ys ∧ Q (.ref p) H))) := by
  intro pins s σ H xs us Q I r h
  obtain ⟨p, ys, rfl, h⟩ := h
  obtain ⟨u, rfl, rx⟩ := vals1 r
  cases rx
  rcases h with ⟨hq, q⟩ | ⟨hq, q⟩
  · obtain ⟨its, r', pl, hz⟩ := I.list hq
    have hlen := r'.length
    refine call_tuple_list pl.isList (fun h' kp => ?_) (by simp only [List.size_toArray] <;> omega)
    have I1 : Inv X pins σ H { s with heap := h' } := I.kept (t' := s.toks) kp
    have I2 : Inv X pins σ (upd H h'.objs.size (.tup ys)) { s with heap := h'.push { cls := .type "tuple", data := .seq its.toArray } } :=
      I1.laid (t' := s.toks) (fun b o e => Heap.get?_push_of_some _ e) (Nat.le_refl _) (show ObjOk X.prog X.w _ _ _ (.tup ys) from ⟨hz, its, r', IsTup.new _ _⟩)
    exact ⟨.ref h'.objs.size, _, I2, rfl, q _ (I1.hok.fresh (Nat.le_refl _))⟩
  · obtain ⟨its, r', pl, hz⟩ := I.tuple hq
    exact call_tuple_same pl ⟨.ref p, H, I, rfl, q⟩
noncomputable def tyV (K : PySem.W.Frag) (T : String) (x : V) (H : Hp) : Prop := match x with
  | .str _ => T = "str"
  | .int _ => T = "int"
  | .ref p => (T = "list" ∧ ∃ xs, SqL K H p xs) ∨ (T = "tuple" ∧ ∃ o, K.lookup p = some o ∧ o.cls = .type "tuple" ∧ o.dict = none) ∨
      (T = "dict" ∧ ((∃ kvs, H p = some (.dK kvs)) ∨ ∃ kvs, H p = some (.dT kvs))) ∨ (T = "set" ∧ ∃ S n, H p = some (.set S n))
  | _ => False
theorem tyV_is {pins : List (Addr × Obj)} {σ : St} {H : Hp} {s : Shared} {T : String} {x : V} {v : Value} (I : Inv X pins σ H s) (r : RelV x v) (ty : tyV X.K T x H) :
    s.TypeIs v T ∧ ∀ a, v = .ref a → ∃ ob, s.heap.get? a = some ob ∧ ob.dict = none := by
  cases x with
  | str z =>
    obtain ⟨t, rfl⟩ := r
    cases (show T = "str" from ty)
    exact ⟨typeIs_str s z t, fun _ e => nomatch e⟩
  | int i =>
    obtain ⟨t, rfl⟩ := r
    cases (show T = "int" from ty)
    exact ⟨typeIs_int s i t, fun _ e => nomatch e⟩
  | ref p =>
    cases r
    rcases ty with ⟨rfl, xs, hq⟩ | ⟨rfl, o, hk, hc, hd⟩ | ⟨rfl, hk⟩ | ⟨rfl, S, n, hk⟩
    · obtain ⟨its, _, pl, _⟩ := I.list hq
      refine ⟨pl.isList.typeIs, fun a e => ?_⟩
      cases e
      obtain ⟨o, n, e, c, hd, _⟩ := pl
      exact ⟨o, e, hd⟩
    · refine ⟨⟨o, I.kIn p o hk, hc⟩, fun a e => ?_⟩
      cases e
      exact ⟨o, I.kIn _ o hk, hd⟩
    · have z : ∃ o, s.heap.get? p = some o ∧ o.ExactDict := by
        rcases hk with ⟨kvs, hk⟩ | ⟨kvs, hk⟩
        · obtain ⟨_, _, _, _, o, _, _, e, ex, _⟩ := I.hok p _ hk
          exact ⟨o, e, ex⟩
        · obtain ⟨_, _, _, _, o, _, _, e, ex, _⟩ := I.hok p _ hk
          exact ⟨o, e, ex⟩
      obtain ⟨o, e, ex⟩ := z
      refine ⟨⟨o, e, ex.1⟩, fun a e2 => ?_⟩
      cases e2
      exact ⟨o, e, ex.2.1⟩
    · obtain ⟨o, _, _, _, e, ex, _⟩ := I.hok p _ hk
      refine ⟨⟨o, e, ex.1⟩, fun a e2 => ?_⟩
      cases e2
      exact ⟨o, e, ex.2.1⟩
  | _ => exact False.elim ty
noncomputable def tBM (K : PySem.W.Frag) (T : String) (r : V → List V → Hp → VK → Prop) (to : TE) (t : TA) : TE := fun σ H Q => to σ H fun x H1 => tyV K T x H1 ∧ t σ H1 fun xs H2 => r x xs H2 Q
variable {o e : Expr} {es : List Expr} {to : TE} {t : TA} {name : Str} {apos cpos : Pos} {T id : String} {r : V → List V → Hp → VK → Prop}
theorem pe_bm (pa : PlainAttrs T) (slot : Slot T name id) (hty : typeOf (.builtin id) = pure (.type "method_descriptor")) (hm : MtR X id r) (ho : PE X o to) (ha : PA X (e :: es) t)
    (hbase : attributeBase o name X.env (eval o X.env) = eval o X.env := by rfl)
    (hfew : ((backTo cpos (starEach (e :: es) X.env)).all (fun x => !x.1) && (backToKw cpos (keywordEach [] X.env)).all (fun x => x.1.isSome)
      && decide ((e :: es).length + ([] : List Keyword).length + (if ([] : List Keyword).isEmpty then 0 else 1) < 30)) = true := by rfl)
    (hline : (apos.endLine == cpos.line) = true := by rfl) (hs : starEach (e :: es) X.env = (false, eval e X.env) :: starEach es X.env := by rfl) (hplain : (backTo cpos (starEach es X.env)).any (·.1) = false := by rfl) :
    PE X (.Call (.Attribute o name apos) (e :: es) [] cpos) (tBM X.K T r to t) := by
  intro pins s σ H Q I h
  refine wpAny_Call_method_late hbase hfew hline rfl (thn (ho pins s σ H _ I h) fun v s1 ⟨x, H1, I1, r1, ty, q1⟩ => ?_)
  obtain ⟨h1, h2⟩ := tyV_is I1 r1 ty
  refine ⟨T, id, pa, slot, hty, h1, h2, ?_⟩
  have hA := ha cpos pins s1 σ H1 _ I1 q1
  rw [hs] at hA ⊢
  refine Calls.callWith_builtin (by show (false || (backTo cpos (starEach es X.env)).any (·.1)) = false; rw [hplain] <;> rfl) (Calls.evalArgs_plain ?_)
  exact thn hA fun us s2 ⟨vs, H2, I2, r2, q2⟩ => hm pins s2 σ H2 x vs v us Q I2 r1 r2 q2
end
end L2
namespace L2
open PySem PySem.Spec PyProof.Rows
noncomputable def MtM (X : Cx) (id : String) (r : V → List V → Hp → VK → Prop) : Prop :=
  ∀ (pins : List (Addr × Obj)) (s : Shared) (σ : St) (H : Hp) (x : V) (xs : List V) (v : Value) (us : List Value) (Q : VK), Inv X pins σ H s → RelV x v → Vals xs us → r x xs H Q →
    wpAny (model X.prog X.w) X.A (call (.builtin id) (v :: us)) (EP X pins σ Q) X.xe s
theorem Vals.one : ∀ {x : V} {us : List Value}, Vals [x] us → ∃ u, us = [u] ∧ RelV x u
  | _, _, .cons r .nil => ⟨_, rfl, r⟩
section
variable {X : Cx} {pins : List (Addr × Obj)} {σ : St} {H : Hp} {s : Shared} {l b : Addr} {xs ys zs : List V}
theorem Inv.lset {its its' : List Value} {n : Nat} {f : Array Value → Array Value} {t' : Nat} (I : Inv X pins σ H s) (hH : H l = some (.lst xs))
    (e : s.heap.get? l = some { cls := .type "list", data := .seq its.toArray n }) (hf : f its.toArray = its'.toArray) (hv : Vals ys its') (hz : ys.length ≤ sizeLine) :
    Inv X pins σ (upd H l (.lst ys)) { s with heap := s.heap.update l (Obj.mapSeq f), toks := t' } := by
  have q := PySem.IsL.update e f
  rw [hf] at q
  refine I.write (x := l) (e := l) (by rw [hH]; exact trivial) (.inl rfl) (fun b' u hb hu => (Heap.get?_update_other s.heap (Obj.mapSeq f) (Ne.symm hb)).trans hu) ⟨_, q⟩ ?_
  exact ⟨hz, its', _, hv, q⟩
theorem Inv.lnew {its : List Value} {t' : Nat} (I : Inv X pins σ H s) (hv : Vals ys its) (hz : ys.length ≤ sizeLine) :
    Inv X pins σ (upd H s.heap.objs.size (.lst ys)) { s with heap := s.heap.push { cls := .type "list", data := .seq its.toArray }, toks := t' } :=
  I.laid (fun _ _ q => Heap.get?_push_of_some _ q) (Nat.le_refl _) ⟨hz, its, 0, hv, Heap.get?_push_size _ rfl⟩
theorem Inv.fresh (I : Inv X pins σ H s) : H s.heap.objs.size = none := I.hok.fresh (Nat.le_refl _)
theorem Inv.lstM (I : Inv X pins σ H s) (hH : H l = some (.lst xs)) : xs.length ≤ sizeLine ∧ ∃ (its : List Value) (n : Nat), Vals xs its ∧ xs.length = its.length ∧ s.heap.get? l = some { cls := .type "list", data := .seq its.toArray n } := by
  obtain ⟨z, its, n, r, e⟩ := I.hok l _ hH
  exact ⟨z, its, n, r, r.length, e⟩
theorem notLongL {n : Nat} (h : n ≤ sizeLine) : Builtin.List.listTooLong n = false := by
  unfold Builtin.List.listTooLong
  exact decide_eq_false (by omega)
end
section
variable {X : Cx}
noncomputable def rAppend : V → List V → Hp → VK → Prop := fun x vs H Q => ∃ l xs y, x = .ref l ∧ vs = [y] ∧ H l = some (.lst xs) ∧ xs.length < sizeLine ∧ Q .non (upd H l (.lst (xs ++ [y])))
theorem mt_append : MtM X "list.append" rAppend := by
  intro pins s σ H x vs v us Q I rx rv h
  obtain ⟨l, xs, y, rfl, rfl, hH, hz, q⟩ := h
  cases rx
  obtain ⟨u, rfl, ru⟩ := rv.one
  obtain ⟨z, its, n, r, hl, e⟩ := I.lstM hH
  refine call_meets F.slot_list_append ⟨_, e, rfl⟩ F.entry_list_append (F.args_list_append_2 _ _) (PySem.list_append l its.toArray n u (by rw [List.size_toArray]; omega)) ⟨e, ?_⟩
  refine ⟨.non, _, I.lset (its' := its ++ [u]) hH e (by simp) (r.append (.cons ru .nil)) ?_, rfl, q⟩
  rw [List.length_append, List.length_singleton]
  omega
noncomputable def rExtend : V → List V → Hp → VK → Prop := fun x vs H Q => ∃ l b xs zs, x = .ref l ∧ vs = [.ref b] ∧ H l = some (.lst xs) ∧ H b = some (.lst zs) ∧ xs.length + zs.length ≤ sizeLine ∧ Q .non (upd H l (.lst (xs ++ zs)))
theorem mt_extend : MtM X "list.extend" rExtend := by
  intro pins s σ H x vs v us Q I rx rv h
  obtain ⟨l, b, xs, zs, rfl, rfl, hH, hB, hz, q⟩ := h
  cases rx
  obtain ⟨u, rfl, ru⟩ := rv.one
  cases ru
  obtain ⟨z, its, n, r, hl, e⟩ := I.lstM hH
  obtain ⟨z2, its2, n2, r2, hl2, e2⟩ := I.lstM hB
  have hsz : its.toArray.size + its2.toArray.size ≤ sizeLine := by rw [List.size_toArray, List.size_toArray]; omega
  have hlong : ¬ (!its.toArray.isEmpty && Builtin.List.listTooLong (its.toArray.size + its2.toArray.size)) = true := by
    rw [notLongL hsz, Bool.and_false]
    exact Bool.false_ne_true
  refine call_meets F.slot_list_extend ⟨_, e, rfl⟩ F.entry_list_extend (F.args_list_extend_2 _ _)
    (AutoSeq1.list_extend_list_list_0 l its.toArray n b its2.toArray n2 hlong (by rw [List.size_toArray]; omega) (by omega)) ⟨e, e2, ?_⟩
  refine ⟨.non, _, I.lset (its' := its ++ its2) hH e (by simp) (r.append r2) ?_, rfl, q⟩
  rw [List.length_append]
  omega
noncomputable def rCat : R2 := fun x y H Q => ∃ l b xs zs, x = .ref l ∧ y = .ref b ∧ H l = some (.lst xs) ∧ H b = some (.lst zs) ∧ xs.length + zs.length ≤ sizeLine ∧ ∀ p, H p = none → Q (.ref p) (upd H p (.lst (xs ++ zs)))
theorem op_cat : OpR X (binaryOp .Add) rCat := by
  intro pins s σ H x y v u Q I rx ry h
  obtain ⟨l, b, xs, zs, rfl, rfl, hH, hB, hz, q⟩ := h
  cases rx
  cases ry
  obtain ⟨z, its, n, r, hl, e⟩ := I.lstM hH
  obtain ⟨z2, its2, n2, r2, hl2, e2⟩ := I.lstM hB
  refine PySem.P.add_list e e2 ?_ (by rw [List.size_toArray, List.size_toArray]; omega)
  have ea : its.toArray ++ its2.toArray = (its ++ its2).toArray := by simp
  rw [ea]
  exact ⟨.ref _, _, I.lnew (t' := s.toks) (r.append r2) (by rw [List.length_append]; omega), rfl, q _ I.fresh⟩
end
section
variable {prog : Program} {w : World} {A : Around} {E : Value → Shared → Prop} {s : Shared}
end
section
variable {X : Cx}
end
end L2
namespace L2
open PySem PySem.Spec PyProof.Rows
section
variable {κ : Type} [DecidableEq κ]
noncomputable def valV (kvs : List (κ × V)) (k : κ) : Option V := (kvs.find? fun kv => decide (kv.1 = k)).map (·.2)
noncomputable def putK (kvs : List (κ × V)) (k : κ) (v : V) : List (κ × V) :=
  if (kvs.any fun kv => decide (kv.1 = k)) = true then kvs.map (fun kv => if kv.1 = k then (kv.1, v) else kv) else kvs ++ [(k, v)]
theorem valV_pos {p : κ × V} {r : List (κ × V)} {k : κ} (e : p.1 = k) : valV (p :: r) k = some p.2 := by simp [valV, List.find?_cons, e]
theorem valV_neg {p : κ × V} {r : List (κ × V)} {k : κ} (e : ¬ p.1 = k) : valV (p :: r) k = valV r k := by simp [valV, List.find?_cons, e]
theorem valV_any (k : κ) : ∀ kvs : List (κ × V), (kvs.any fun kv => decide (kv.1 = k)) = (valV kvs k).isSome
  | [] => rfl
  | p :: r => by
    rw [List.any_cons]
    by_cases e : p.1 = k
    · simp only [valV_pos e, decide_eq_true e, Bool.true_or, Option.isSome_some]
    · rw [valV_neg e, decide_eq_false e, Bool.false_or]; exact valV_any k r
theorem valV_map (k j : κ) (y : V) : ∀ kvs : List (κ × V), valV (kvs.map fun kv => if kv.1 = k then (kv.1, y) else kv) j = (valV kvs j).map fun x => if j = k then y else x
  | [] => rfl
  | p :: r => by
    have ih := valV_map k j y r
    rw [List.map_cons]
    by_cases h : p.1 = k
    · rw [if_pos h]
      by_cases e : p.1 = j
      · rw [valV_pos (p := (p.1, y)) e, valV_pos e, Option.map_some, if_pos (e.symm.trans h)]
      · rw [valV_neg (p := (p.1, y)) e, valV_neg e, ih]
    · rw [if_neg h]
      by_cases e : p.1 = j
      · rw [valV_pos (p := p) e, valV_pos e, Option.map_some, if_neg (fun z => h (e.trans z))]
      · rw [valV_neg (p := p) e, valV_neg e, ih]
theorem valV_snoc (k j : κ) (y : V) : ∀ kvs : List (κ × V), valV kvs k = none → valV (kvs ++ [(k, y)]) j = if j = k then some y else valV kvs j
  | [], _ => by
    by_cases e : k = j
    · rw [if_pos e.symm]; exact valV_pos (p := (k, y)) e
    · rw [if_neg (fun z => e z.symm)]; exact valV_neg (p := (k, y)) e
  | p :: r, hn => by
    rw [List.cons_append]
    have hk : ¬ p.1 = k := fun z => by rw [valV_pos z] at hn; cases hn
    rw [valV_neg hk] at hn
    have ih := valV_snoc k j y r hn
    by_cases e : p.1 = j
    · rw [valV_pos e, valV_pos e, if_neg (fun z => hk (e.trans z))]
    · rw [valV_neg e, valV_neg e, ih]
theorem valV_put (kvs : List (κ × V)) (k j : κ) (y : V) : valV (putK kvs k y) j = if j = k then some y else valV kvs j := by
  unfold putK
  by_cases a : (kvs.any fun kv => decide (kv.1 = k)) = true
  · rw [if_pos a, valV_map]
    rw [valV_any] at a
    by_cases e : j = k
    · obtain ⟨x, hx⟩ := Option.isSome_iff_exists.mp a
      rw [if_pos e, e, hx, Option.map_some, if_pos rfl]
    · rw [if_neg e]
      cases valV kvs j with
      | none => rfl
      | some x => rw [Option.map_some, if_neg e]
  · rw [if_neg a]
    refine valV_snoc k j y kvs ?_
    rw [valV_any] at a
    cases q : valV kvs k with
    | none => rfl
    | some x => rw [q] at a; exact (a rfl).elim
theorem length_putK (kvs : List (κ × V)) (k : κ) (v : V) : (putK kvs k v).length ≤ kvs.length + 1 := by
  unfold putK
  split
  · rw [List.length_map]; omega
  · rw [List.length_append, List.length_cons, List.length_nil]; omega
theorem RelO.isSome_eq {o : Option V} {u : Option Value} (r : RelO o u) : o.isSome = u.isSome := by
  cases o with
  | none => cases u with
    | none => rfl
    | some _ => exact (show False from r).elim
  | some _ => cases u with
    | none => exact (show False from r).elim
    | some _ => rfl
theorem KV.val {kvs : List (κ × V)} {vs : List (κ × Value)} (r : KV kvs vs) (k : κ) : RelO (valV kvs k) (valueAt vs k) := by
  unfold KV at r
  induction r with
  | nil => exact True.intro
  | @cons p q ps qs h t ih =>
    obtain ⟨h1, h2⟩ := h
    by_cases e : p.1 = k
    · have e' : q.1 = k := h1.symm.trans e
      have b : valueAt (q :: qs) k = some q.2 := by simp [valueAt, List.find?_cons, e']
      rw [valV_pos e, b]; exact h2
    · have e' : ¬ q.1 = k := fun z => e (h1.trans z)
      have b : valueAt (q :: qs) k = valueAt qs k := by simp [valueAt, List.find?_cons, e']
      rw [valV_neg e, b]; exact ih
theorem KV.any {kvs : List (κ × V)} {vs : List (κ × Value)} (r : KV kvs vs) (k : κ) : (kvs.any fun kv => decide (kv.1 = k)) = vs.any fun kv => decide (kv.1 = k) := by
  unfold KV at r
  induction r with
  | nil => rfl
  | cons h t ih => rw [List.any_cons, List.any_cons, ih, h.1]
theorem KV.repl {kvs : List (κ × V)} {vs : List (κ × Value)} (r : KV kvs vs) (k : κ) {y : V} {u : Value} (ry : RelV y u) :
    KV (kvs.map fun kv => if kv.1 = k then (kv.1, y) else kv) (vs.map fun kv => if kv.1 = k then (kv.1, u) else kv) := by
  unfold KV at r ⊢
  induction r with
  | nil => exact .nil
  | @cons p q ps qs h t ih =>
    rw [List.map_cons, List.map_cons]
    refine .cons ?_ ih
    obtain ⟨h1, h2⟩ := h
    by_cases e : p.1 = k
    · rw [if_pos e, if_pos (h1.symm.trans e)]; exact ⟨h1, ry⟩
    · rw [if_neg e, if_neg (fun z => e (h1.trans z))]; exact ⟨h1, h2⟩
theorem KV.put {kvs : List (κ × V)} {vs : List (κ × Value)} (r : KV kvs vs) (k : κ) {y : V} {u : Value} (ry : RelV y u) : KV (putK kvs k y) (stored vs k u) := by
  unfold putK stored
  rw [r.any k]
  by_cases e : (vs.any fun kv => decide (kv.1 = k)) = true
  · rw [if_pos e, if_pos e]; exact r.repl k ry
  · rw [if_neg e, if_neg e]; exact Paired.snoc r ⟨rfl, ry⟩
theorem KV.keys {kvs : List (κ × V)} {vs : List (κ × Value)} (r : KV kvs vs) : kvs.map (·.1) = vs.map (·.1) := by
  unfold KV at r
  induction r with
  | nil => rfl
  | cons h t ih => rw [List.map_cons, List.map_cons, ih, h.1]
theorem KV.length {kvs : List (κ × V)} {vs : List (κ × Value)} (r : KV kvs vs) : kvs.length = vs.length := Paired.length r
end
theorem kV_is {P : Program} {w : World} {k : Key} {u : Value} (r : RelV (kV k) u) : (mixKind P w).is k u = true := by
  cases k with
  | inl i => obtain ⟨t, e⟩ := (show ∃ t, u = Value.int i t from r); subst e; exact mixKind_int P w i t
  | inr x => obtain ⟨t, e⟩ := (show ∃ t, u = Value.str x t from r); subst e; exact mixKind_str P w x t
theorem items_are {P : Program} {w : World} : ∀ {ks : List Key} {us : List Value}, Vals (ks.map kV) us → ItemsAre (mixKind P w) ks us
  | [], _, r => by rw [List.map_nil] at r; cases r; exact .nil
  | k :: ks, _, r => by
    rw [List.map_cons] at r
    cases r with
    | cons h t => exact .cons (kV_is h) (items_are t)
noncomputable abbrev KT (H : Hp) : List (List Key × V) → List (List Key × Addr × Value) → Prop := Paired fun p q => p.1 = q.1 ∧ H q.2.1 = some (.tup (p.1.map kV)) ∧ RelV p.2 q.2.2
theorem KT.val {H : Hp} {kvs : List (List Key × V)} {xs : List (List Key × Addr × Value)} (r : KT H kvs xs) (k : List Key) : RelO (valV kvs k) ((atKey xs k).map (·.2)) := by
  induction r with
  | nil => exact True.intro
  | @cons p q ps qs h t ih =>
    obtain ⟨h1, _, h2⟩ := h
    by_cases e : p.1 = k
    · have e' : q.1 = k := h1.symm.trans e
      have b : atKey (q :: qs) k = some q.2 := by simp [atKey, List.find?_cons, e']
      rw [valV_pos e, b]; exact h2
    · have e' : ¬ q.1 = k := fun z => e (h1.trans z)
      have b : atKey (q :: qs) k = atKey qs k := by simp [atKey, List.find?_cons, e']
      rw [valV_neg e, b]; exact ih
theorem KT.repl {H : Hp} {kvs : List (List Key × V)} {xs : List (List Key × Addr × Value)} (r : KT H kvs xs) (k : List Key) {y : V} {u : Value} (ry : RelV y u) :
    KT H (kvs.map fun kv => if kv.1 = k then (kv.1, y) else kv) (xs.map (putAt k u)) := by
  induction r with
  | nil => exact .nil
  | @cons p q ps qs h t ih =>
    rw [List.map_cons, List.map_cons]
    refine .cons ?_ ih
    obtain ⟨h1, h2, h3⟩ := h
    unfold putAt
    by_cases e : p.1 = k
    · rw [if_pos e, if_pos (h1.symm.trans e)]; exact ⟨h1, h2, ry⟩
    · rw [if_neg e, if_neg (fun z => e (h1.trans z))]; exact ⟨h1, h2, h3⟩
theorem KT.put {H : Hp} {kvs : List (List Key × V)} {xs : List (List Key × Addr × Value)} (r : KT H kvs xs) (k : List Key) {b : Addr} {y : V} {u : Value} (hb : H b = some (.tup (k.map kV))) (ry : RelV y u) :
    KT H (putK kvs k y) (storedH xs k b u) := by
  have e : (kvs.any fun kv => decide (kv.1 = k)) = (atKey xs k).isSome := by
    rw [valV_any, (r.val k).isSome_eq, Option.isSome_map]
  unfold putK storedH
  rw [e]
  by_cases q : (atKey xs k).isSome = true
  · rw [if_pos q, if_pos q]; exact r.repl k ry
  · rw [if_neg q, if_neg q]; exact Paired.snoc r ⟨rfl, hb, ry⟩
theorem KT.keeps {H H' : Hp} {kvs : List (List Key × V)} {xs : List (List Key × Addr × Value)} (r : KT H kvs xs) (ht : ∀ b ys, H b = some (.tup ys) → H' b = some (.tup ys)) : KT H' kvs xs :=
  Paired.mapP r fun _ _ z => ⟨z.1, ht _ _ z.2.1, z.2.2⟩
section
variable {P : Program} {w : World} {H : Hp} {h : Heap} {a : Addr}
theorem rd_of {u : HO} (ok : HOk P w H h) (e : Rd H a u) : ObjOk P w H h a u := e.ok ok
theorem dk_rd {kvs : List (Key × V)} (ok : HOk P w H h) (e : Rd H a (.dK kvs)) : kvs.length ≤ sizeLine ∧ (a == sysModules) = false ∧ ∃ vs, KV kvs vs ∧ h.DictOf (mixKind P w) a vs :=
  show ObjOk P w H h a (.dK kvs) from rd_of ok e
theorem dk_of {kvs : List (Key × V)} (ok : HOk P w H h) (e : H a = some (.dK kvs)) : kvs.length ≤ sizeLine ∧ (a == sysModules) = false ∧ ∃ vs, KV kvs vs ∧ h.DictOf (mixKind P w) a vs := dk_rd ok (.inl e)
theorem key_of {ks : List Key} (ok : HOk P w H h) (e : H a = some (.tup (ks.map kV))) : (tupleKind (mixKind P w)).is h ks a := by
  obtain ⟨_, its, r, o, h1, h2, n, h3⟩ := (show ObjOk P w H h a (.tup (ks.map kV)) from ok a _ e)
  exact ⟨o, its.toArray, n, h1, h2, h3, by simpa using items_are r⟩
theorem dt_rd {kvs : List (List Key × V)} (ok : HOk P w H h) (e : Rd H a (.dT kvs)) : kvs.length ≤ sizeLine ∧ (a == sysModules) = false ∧
    ∃ xs, KT H kvs xs ∧ h.DictOfH (tupleKind (mixKind P w)) a xs := by
  obtain ⟨z, y, xs, r, o, es, ep, h1, h2, h3, h4, h5⟩ := (show ObjOk P w H h a (.dT kvs) from rd_of ok e)
  refine ⟨z, y, xs, r, o, es, ep, h1, h2, h3, h4, fun x hx => ?_, h5⟩
  have all : ∀ {l : List (List Key × V)} {m : List (List Key × Addr × Value)}, KT H l m → ∀ x ∈ m, (tupleKind (mixKind P w)).is h x.1 x.2.1 := by
    intro l m q
    induction q with
    | nil => intro x hx; exact nomatch hx
    | @cons p q ps qs hq t ih =>
      intro x hx
      rcases List.mem_cons.mp hx with e | hx
      · subst e
        exact key_of ok (by rw [← hq.1]; exact hq.2.1)
      · exact ih x hx
  exact all r x hx
theorem dt_of {kvs : List (List Key × V)} (ok : HOk P w H h) (e : H a = some (.dT kvs)) : kvs.length ≤ sizeLine ∧ (a == sysModules) = false ∧
    ∃ xs, KT H kvs xs ∧ h.DictOfH (tupleKind (mixKind P w)) a xs := dt_rd ok (.inl e)
end
noncomputable def DGet (H : Hp) (a : Addr) (y : V) (r : Option V) : Prop :=
  (∃ kvs k, Rd H a (.dK kvs) ∧ y = kV k ∧ r = valV kvs k) ∨ ∃ kvs k b, Rd H a (.dT kvs) ∧ y = .ref b ∧ H b = some (.tup (k.map kV)) ∧ r = valV kvs k
noncomputable def DPut (H : Hp) (a : Addr) (y v : V) (H' : Hp) : Prop :=
  (∃ kvs k, H a = some (.dK kvs) ∧ y = kV k ∧ kvs.length < sizeLine ∧ H' = upd H a (.dK (putK kvs k v))) ∨
  ∃ kvs k b, H a = some (.dT kvs) ∧ y = .ref b ∧ H b = some (.tup (k.map kV)) ∧ kvs.length < sizeLine ∧ H' = upd H a (.dT (putK kvs k v))
theorem DGet.k {H : Hp} {a : Addr} {kvs : List (Key × V)} {k : Key} (e : H a = some (.dK kvs)) : DGet H a (kV k) (valV kvs k) := .inl ⟨kvs, k, .inl e, rfl, rfl⟩
theorem DGet.t {H : Hp} {a b : Addr} {kvs : List (List Key × V)} {k : List Key} (e : H a = some (.dT kvs)) (eb : H b = some (.tup (k.map kV))) : DGet H a (.ref b) (valV kvs k) := .inr ⟨kvs, k, b, .inl e, rfl, eb, rfl⟩
theorem DPut.k {H : Hp} {a : Addr} {kvs : List (Key × V)} {k : Key} {v : V} (e : H a = some (.dK kvs)) (hl : kvs.length < sizeLine) : DPut H a (kV k) v (upd H a (.dK (putK kvs k v))) := .inl ⟨kvs, k, e, rfl, hl, rfl⟩
theorem DPut.t {H : Hp} {a b : Addr} {kvs : List (List Key × V)} {k : List Key} {v : V} (e : H a = some (.dT kvs)) (eb : H b = some (.tup (k.map kV))) (hl : kvs.length < sizeLine) :
    DPut H a (.ref b) v (upd H a (.dT (putK kvs k v))) := .inr ⟨kvs, k, b, e, rfl, eb, hl, rfl⟩
section
variable {X : Cx} {pins : List (Addr × Obj)} {σ : St} {H : Hp} {s : Shared} {a : Addr} {y v : V} {u r : Value} {o : Option V} {A : Around} {E : Value → Shared → Prop}
theorem Inv.big (I : Inv X pins σ H s) : sysModules < s.heap.objs.size := by
  have h : mainGlobals < s.heap.objs.size := (I.mod.glob.keeps I.bk).lt
  exact Nat.lt_trans (by decide) h
theorem d_getItem {Q : Value → Shared → Prop} (hu : A.units + 1 < cLine) (I : Inv X pins σ H s) (g : DGet H a y (some v)) (ry : RelV y u) (h : ∀ w' s', Inv X pins σ H s' → RelV v w' → Q w' s') :
    wpAny (model X.prog X.w) A (getItem (.ref a) u) Q E s := by
  rcases g with ⟨kvs, k, e, ey, l⟩ | ⟨kvs, k, b, e, ey, eb, l⟩
  · subst ey
    obtain ⟨z, hd, vs, rel, dd⟩ := dk_rd I.hok e
    obtain ⟨w', hw, rw'⟩ := RelO.some_of (v := v) (o := valueAt vs k) (by rw [l]; exact rel.val k)
    exact wpAny_getItem_of (kV_is ry) dd.mapOf hw (h w' _ (I.tok _) rw')
  · subst ey
    cases (show u = Value.ref b from ry)
    obtain ⟨z, hd, xs, rel, dd⟩ := dt_rd I.hok e
    obtain ⟨w', hw, rw'⟩ := RelO.some_of (v := v) (o := (atKey xs k).map (·.2)) (by rw [l]; exact rel.val k)
    obtain ⟨p, hp, hp2⟩ := Option.map_eq_some_iff.mp hw
    refine wpAny_getItem_heap (tupleKind_room_in1 hu) (key_of I.hok eb) dd hp ?_
    rw [hp2]
    exact h w' _ (I.tok _) rw'
theorem d_notIn {Q : Value → Shared → Prop} (hu : A.units + 1 < cLine) (I : Inv X pins σ H s) (g : DGet H a y o) (ry : RelV y u) (h : ∀ s', Inv X pins σ H s' → Q (.bool (!o.isSome)) s') :
    wpAny (model X.prog X.w) A (compareOp .NotIn u (.ref a)) Q E s := by
  rcases g with ⟨kvs, k, e, ey, l⟩ | ⟨kvs, k, b, e, ey, eb, l⟩
  · subst ey
    obtain ⟨z, hd, vs, rel, dd⟩ := dk_rd I.hok e
    refine wpAny_notIn_of (kV_is ry) hd dd.mapOf ?_
    rw [← (rel.val k).isSome_eq, ← l]
    exact h _ (I.tok _)
  · subst ey
    cases (show u = Value.ref b from ry)
    obtain ⟨z, hd, xs, rel, dd⟩ := dt_rd I.hok e
    refine wpAny_notIn_heap (tupleKind_room_in1 hu) (key_of I.hok eb) hd dd ?_
    have q := (rel.val k).isSome_eq
    rw [Option.isSome_map] at q
    rw [← q, ← l]
    exact h _ (I.tok _)
theorem d_write {h' : Heap} {t' : Nat} {ob : HO} (I : Inv X pins σ H s) (mu : Mut (H a)) (hs : Heap.SameBut a s.heap h') (he : ∃ q, h'.get? a = some q) (new : ObjOk X.prog X.w (upd H a ob) h' a ob) :
    Inv X pins σ (upd H a ob) { s with heap := h', toks := t' } :=
  I.write (x := a) (e := a) mu (.inl rfl) (fun b q hb z => (hs.2 b hb).trans z) he new
theorem dk_new {P : Program} {w : World} {H' : Hp} {h' : Heap} {kvs : List (Key × V)} {vs : List (Key × Value)} (z : kvs.length ≤ sizeLine) (hd : (a == sysModules) = false) (rel : KV kvs vs) (dd : h'.DictOf (mixKind P w) a vs) :
    ObjOk P w H' h' a (.dK kvs) := ⟨z, hd, vs, rel, dd⟩
theorem d_setItem {H' : Hp} {Q : Unit → Shared → Prop} (hu : A.units + 1 < cLine) (I : Inv X pins σ H s) (g : DPut H a y v H') (ry : RelV y u) (rv : RelV v r) (h : ∀ s', Inv X pins σ H' s' → Q () s') :
    wpAny (model X.prog X.w) A (setItem (.ref a) u r) Q E s := by
  rcases g with ⟨kvs, k, e, ey, l, eH⟩ | ⟨kvs, k, b, e, ey, eb, l, eH⟩
  · subst ey eH
    obtain ⟨z, hd, vs, rel, dd⟩ := dk_of I.hok e
    have hz : vs.length ≤ sizeLine := by rw [← rel.length]; exact z
    have hl : (putK kvs k v).length ≤ sizeLine := by have := length_putK kvs k v; omega
    refine wpAny_setItem_pairs (hsz := hz) (kV_is ry) dd fun h' dd' hs => h _ ?_
    have he : ∃ q, h'.get? a = some q := let ⟨q, _, _, hq, _⟩ := dd'; ⟨q, hq⟩
    exact d_write I (by rw [e]; exact True.intro) hs he (dk_new hl hd (rel.put k rv) dd')
  · subst ey eH
    cases (show u = Value.ref b from ry)
    obtain ⟨z, hd, xs, rel, dd⟩ := dt_of I.hok e
    have hz : xs.length ≤ sizeLine := by rw [← Paired.length rel]; exact z
    have hl : (putK kvs k v).length ≤ sizeLine := by have := length_putK kvs k v; omega
    refine wpAny_setItem_heap (hsz := hz) (tupleKind_room_in1 hu) (key_of I.hok eb) dd fun h' dd' hs => h _ ?_
    obtain ⟨q, es, ep, hq, h2, h3, h4, _, h5⟩ := dd'
    refine d_write I (by rw [e]; exact True.intro) hs ⟨q, hq⟩ ⟨hl, hd, _, (rel.put k eb rv).keeps fun c ys ec => ?_, q, es, ep, hq, h2, h3, h4, h5⟩
    rw [upd_ne (ne_of ec e (fun z => nomatch z))]
    exact ec
end
section
variable {X : Cx} {pins : List (Addr × Obj)} {σ : St} {H : Hp} {s : Shared} {a : Addr} {kvs : List (Key × V)} {k : Key} {u : Value} {A : Around} {E : Value → Shared → Prop}
theorem d_len {Q : Value → Shared → Prop} (I : Inv X pins σ H s) (e : Rd H a (.dK kvs)) (h : ∀ t s', Inv X pins σ H s' → Q (.int kvs.length t) s') : wpAny (model X.prog X.w) A (call (.builtin "len") [.ref a]) Q E s := by
  obtain ⟨z, hd, vs, rel, dd⟩ := dk_rd I.hok e
  refine call_len_dict hd dd (by rw [← rel.length]; rw [sizeLine_eq] at z; omega) ?_
  rw [← rel.length]
  exact h _ _ (I.tok _)
end
noncomputable def NoSl (i : Expr) : Prop := ∀ ov iv, subscripted i false ov iv = operate [ov, iv] (getItem ov iv)
theorem subD_of {prog : Program} {w : World} {A : Around} {E : Value → Shared → Prop} {s : Shared} {env : Env} {value slice : Expr} {pos : Pos} {T id : String} {Q : Value → Shared → Prop}
    (hl : typeLookup (.type T) "__getitem__" = pure (some (.builtin id))) (hs : NoSl slice)
    (h : wpAny (model prog w) A (eval value env) (fun o s₁ => wpAny (model prog w) A (eval slice env) (fun i s₂ => s₂.TypeIs o T ∧ wpAny (model prog w) A (getItem o i) Q E s₂) E s₁) E s) :
    wpAny (model prog w) A (eval (.Subscript value slice pos) env) Q E s := by
  refine Subscript_ (wpAny_mono h (fun o s₁ h₁ => wpAny_mono h₁ (fun i s₂ h₂ => ?_) fun _ _ x => x) fun _ _ x => x)
  obtain ⟨hT, h₂⟩ := h₂
  unfold subscriptTail
  refine wpAny_bind ?_
  rw [getitemInPython_of_ne hT.not_modules]
  refine wpAny_bind (wpAny_specialOf hT hl ?_)
  have fin : wpAny (model prog w) A (subscripted slice false o i) (fun r s₃ => wpAny (model prog w) A (letTemporaryGo value o r >>= fun _ => pure r) Q E s₃) E s₂ := by
    rw [hs o i]
    exact wpAny_operating (wpAny_mono h₂ (fun r s₃ h₃ => wpAny_bind (wpAny_letTemporaryGo (wpAny_pure h₃))) fun _ _ x => x)
  first
    | exact wpAny_pure (wpAny_bind fin)
    | exact wpAny_bind (wpAny_pure (wpAny_bind fin))
    | exact wpAny_bind fin
theorem dict_typeIs {X : Cx} {pins : List (Addr × Obj)} {σ : St} {H : Hp} {s : Shared} {a : Addr} {y : V} {o : Option V} (I : Inv X pins σ H s) (g : DGet H a y o) : s.TypeIs (.ref a) "dict" := by
  rcases g with ⟨kvs, k, e, _, _⟩ | ⟨kvs, k, b, e, _, _, _⟩
  · obtain ⟨_, _, vs, _, dd⟩ := dk_rd I.hok e
    exact dd.typeIs
  · obtain ⟨_, _, xs, _, dd⟩ := dt_rd I.hok e
    exact dd.typeIs
noncomputable def tDGet (td ty : TE) : TE := fun σ H Q => td σ H fun x H1 => ty σ H1 fun y H2 => ∃ a v, x = .ref a ∧ DGet H2 a y (some v) ∧ Q v H2
noncomputable def tDNotIn (ty td : TE) : TE := fun σ H Q => ty σ H fun y H1 => td σ H1 fun x H2 => ∃ a o, x = .ref a ∧ DGet H2 a y o ∧ Q (.bl (!o.isSome)) H2
noncomputable def sDPut (td ty tv : TE) : TS := fun D σ H => tv σ H fun v H1 => td σ H1 fun x H2 => ty σ H2 fun y H3 => ∃ a H4, x = .ref a ∧ DPut H3 a y v H4 ∧ D.nx σ H4
section
variable {X : Cx} {o i e value : Expr} {pos pos' tpos : Pos} {td ty tv : TE}
theorem pe_dget (hu : X.A.units + 1 < cLine) (ho : PE X o td) (hi : PE X i ty) (hs : NoSl i) : PE X (.Subscript o i pos) (tDGet td ty) := by
  intro pins s σ H Q I h
  refine subD_of PySem.F.slot_dict_getitem.lookup hs (thn (ho pins s σ H _ I h) fun u s1 ⟨x, H1, I1, rx, q1⟩ => thn (hi pins s1 σ H1 _ I1 q1) fun iv s2 ⟨y, H2, I2, ry, a, v, ex, g, q2⟩ => ?_)
  subst ex
  obtain rfl : u = Value.ref a := rx
  exact ⟨dict_typeIs I2 g, d_getItem hu I2 g ry fun w' s3 I3 rw' => ⟨v, H2, I3, rw', q2⟩⟩
theorem pc_dnotin (hu : X.A.units + 1 < cLine) (hi : PE X i ty) (ho : PE X o td) : PC X .NotIn i o (tDNotIn ty td) := by
  intro pins s σ H Q I h
  refine thn (hi pins s σ H _ I h) fun iv s1 ⟨y, H1, I1, ry, q1⟩ => thn (ho pins s1 σ H1 _ I1 q1) fun u s2 ⟨x, H2, I2, rx, a, ov, ex, g, q2⟩ => ?_
  subst ex
  obtain rfl : u = Value.ref a := rx
  exact d_notIn hu I2 g ry fun s3 I3 => ⟨.bl (!ov.isSome), H2, I3, rfl, q2⟩
theorem ps_dput (hu : X.A.units + 1 < cLine) (ho : PE X o td) (hi : PE X i ty) (hv : PE X value tv) (hs : swapsWith value (some (.Subscript o i pos')) pos.line X.env = pure false) :
    PS X (.Assign [.Subscript o i pos'] value pos) (sDPut td ty tv) := by
  intro pins s σ H D I h
  refine wpAny_Assign_Subscript (thn (hv pins s σ H _ I h) fun r s1 ⟨v, H1, I1, rv, q1⟩ => thn (ho pins s1 σ H1 _ I1 q1) fun u s2 ⟨x, H2, I2, rx, q2⟩ => thn (hi pins s2 σ H2 _ I2 q2) fun iv s3 ⟨y, H3, I3, ry, a, H4, ex, g, q3⟩ => ?_) hs
  subst ex
  obtain rfl : u = Value.ref a := rx
  exact d_setItem hu I3 g ry rv fun s4 I4 => ⟨σ, H4, I4, q3⟩
end
theorem dk_empty {P : Program} {w : World} {H : Hp} (h : Heap) (hb : sysModules < h.objs.size) : ObjOk P w H (h.push { cls := .type "dict", data := .dict #[] }) h.objs.size (.dK []) :=
  ⟨Nat.zero_le _, beq_eq_false_iff_ne.mpr (Ne.symm (Nat.ne_of_lt hb)), [], .nil, Heap.DictOf.new h⟩
theorem dt_empty {P : Program} {w : World} {H : Hp} (h : Heap) (hb : sysModules < h.objs.size) : ObjOk P w H (h.push { cls := .type "dict", data := .dict #[] }) h.objs.size (.dT []) :=
  ⟨Nat.zero_le _, beq_eq_false_iff_ne.mpr (Ne.symm (Nat.ne_of_lt hb)), [], .nil, _, #[], 0, Heap.get?_push_size _ rfl, ⟨rfl, rfl, rfl⟩, rfl, rfl, List.nodup_nil⟩
noncomputable def tDNewK : TE := fun _ H Q => ∀ p, H p = none → Q (.ref p) (upd H p (.dK []))
noncomputable def tDNewT : TE := fun _ H Q => ∀ p, H p = none → Q (.ref p) (upd H p (.dT []))
section
variable {X : Cx} {pos : Pos}
theorem pe_dnewK : PE X (.Dict [] [] pos) tDNewK := fun pins s σ H Q I h =>
  wpAny_Dict_empty ⟨.ref s.heap.objs.size, _, I.laid (a := s.heap.objs.size) (o := .dK []) (t' := s.toks) (fun _ _ q => Heap.get?_push_of_some _ q) (Nat.le_refl _) (dk_empty s.heap I.big), rfl, h _ (I.hok.fresh (Nat.le_refl _))⟩
theorem pe_dnewT : PE X (.Dict [] [] pos) tDNewT := fun pins s σ H Q I h =>
  wpAny_Dict_empty ⟨.ref s.heap.objs.size, _, I.laid (a := s.heap.objs.size) (o := .dT []) (t' := s.toks) (fun _ _ q => Heap.get?_push_of_some _ q) (Nat.le_refl _) (dt_empty s.heap I.big), rfl, h _ (I.hok.fresh (Nat.le_refl _))⟩
end
noncomputable def mergeK (kvs more : List (Key × V)) : List (Key × V) := more.foldl (fun acc kv => putK acc kv.1 kv.2) kvs
theorem KV.merge : ∀ {more : List (Key × V)} {rs : List (Key × Value)} {kvs : List (Key × V)} {vs : List (Key × Value)}, KV more rs → KV kvs vs → KV (mergeK kvs more) (merged vs rs) := by
  intro more rs kvs vs r
  unfold KV at r
  induction r generalizing kvs vs with
  | nil => intro q; exact q
  | @cons p q ps qs h t ih =>
    intro r0
    have e : KV (putK kvs p.1 p.2) (stored vs q.1 q.2) := by
      have := r0.put p.1 h.2
      rw [← h.1]; exact this
    exact ih e
section
variable {X : Cx} {pins : List (Addr × Obj)} {σ : St} {H : Hp} {s : Shared} {a : Addr} {y d : V} {u r : Value} {o : Option V} {A : Around} {E : Value → Shared → Prop}
end
section
variable {X : Cx} {o e f : Expr} {apos cpos : Pos} {td ty tx : TE}
end
section
variable {X : Cx} {pins : List (Addr × Obj)} {σ : St} {H : Hp} {s : Shared} {a : Addr} {kvs : List (Key × V)} {A : Around} {E : Value → Shared → Prop}
end
section
variable {X : Cx} {pins : List (Addr × Obj)} {σ : St} {H : Hp} {s : Shared} {a : Addr} {y : V} {u : Value} {A : Around} {E : Value → Shared → Prop}
end
end L2
namespace Att
open PySem PySem.W PySem.Calls PyProof.Rows
theorem ints_of_wellAll {P : Params} {h : Heap} : ∀ (ns : List Int) (vs : List Value), WellAll P h vs (ns.map WData.int) → IntsAre vs ns := by
  intro ns
  induction ns with
  | nil =>
    intro vs w
    rw [List.map_nil] at w
    cases w
    exact .nil
  | cons n ns ih =>
    intro vs w
    rw [List.map_cons] at w
    cases w with
    | cons a b =>
      cases a
      exact .cons _ _ (ih _ b)
theorem script_of {l : OpenLaw} {n : Nat} (hn : l.most = some n) {P : Params} {h : Heap} {args : List WData} {vals : List Value}
    (hpre : l.row.toRowW.claim.pre args = true) (hwl : WellAll P h vals args) :
    ∃ a vs ns, vals = [Value.ref a] ∧ args = [WData.list (ns.map WData.int)] ∧ h.get? a = some { cls := .type "list", data := .seq vs.toArray } ∧ IntsAre vs ns ∧ ns.length ≤ n := by
  have hsh : WShape.hasAll [] args [.list .int] = true := (pre_splitW hpre).1
  have hc : l.pre.holds [] { args := args } = true := (pre_splitW hpre).2
  obtain ⟨d, r, rfl, h1, h2⟩ := hasAllW_cons hsh
  obtain rfl := hasAllW_nil h2
  obtain ⟨xs, rfl, h3⟩ := hasW_list h1
  obtain ⟨ns, rfl⟩ := items_int h3
  have hlen : ns.length ≤ n := by
    unfold OpenLaw.pre at hc
    have h4 : (WTm.not (.lt (.lit (.int (n : Int))) (.len (.arg 0)))).holds [] { args := [.list (ns.map .int)] } = true := by
      have h4 := (holds_andW hc).1
      rw [hn] at h4
      exact h4
    have h5 := condW_of h4 (w_not (w_lt w_lit (w_len_list (w_arg rfl))))
    rw [List.length_map] at h5
    refine Nat.le_of_not_lt fun q => ?_
    have q' : (n : Int) < ((ns.length : Nat) : Int) := by omega
    first
      | (rw [decide_eq_true q'] at h5; exact absurd h5 (by decide))
      | (simp at h5; omega)
  cases hwl with
  | cons w1 w2 =>
    cases w2
    cases w1 with
    | list ho hall => exact ⟨_, _, ns, rfl, rfl, ho, ints_of_wellAll ns _ hall, hlen⟩
theorem post_true (l : OpenLaw) (args : List WData) : l.row.toRowW.claim.post args (.bool true) args = true :=
  postW_of (r := l.row.toRowW) (X := (true == true))
    (show WShape.has [] (.bool true) .bool = true by first | rfl | decide | simp [WShape.has, WShape.arms, WShape.armsAll])
    (show (WTm.eq .res (.lit (.bool true))).value [] { args := args, res := some (.bool true), after := args } = some (.bool (true == true)) from w_eq_bool (w_res rfl) w_lit) rfl
section
variable {prog : Program} {w : World} {A : Around} {E : Value → Shared → Prop} {s : Shared} {K : Frag}
end
end Att
namespace L2
open PySem PySem.Spec PyProof.Rows
theorem vals_ints : ∀ {vs : List Value} {ns : List Int}, IntsAre vs ns → Vals (ns.map V.int) vs
  | _, _, .nil => .nil
  | _, _, .cons n t h => .cons ⟨t, rfl⟩ (vals_ints h)
noncomputable def Only (H : Hp) : Prop := ∀ b, H b = none ∨ ∃ o xs, H b = some (.frz o (.lst xs))
theorem law_call {P : Program} {w : World} {K : PySem.W.Frag} {mg mb : Str → Option Value} {CX : CXT} {k : Nat} {fa a : Addr} {fd : FuncData} {x : Str} {sp : Sp} {s₁ : Shared} {vs : List Value} {ns : List Int}
    (KX : K.In s₁.heap) (hns : s₁.heap.Ns mainGlobals mg) (hb : s₁.heap.Ns builtinsNs mb) (hbb : ∀ x : Str, x ≠ "__name__" → mb x = bootBuiltins x) (hlim : s₁.heap.NoLimit) (hg : s₁.gens = #[])
    (ha : s₁.heap.get? a = some { cls := .type "list", data := .seq vs.toArray }) (hi : IntsAre vs ns) (hl : ns.length ≤ sizeLine) (hr : Room k callerA)
    (F : ∀ base : Heap, K.In base → base.Ns mainGlobals mg → FnOk P w K mg base CX k fa fd [x] sp) (hbind : ∀ (s : Shared) (u : Value), BindsTo s fd ⟨[u], []⟩ [(x, u)])
    (hsp : ∀ H : Hp, Only H → SqL K H a (ns.map V.int) → sp [.ref a] H (fun v _ => v = .bl true) fun _ _ _ => False)
    (hCX : ∀ H e s', CX [] H s₁ (fun _ _ _ => False) e s' → False) :
    codeAny (model P w) callerA (.call (.ref fa) ⟨[.ref a], []⟩) (fun r s' => r = .ok (.ret (.bool true)) ∧ OldK s₁.heap s'.heap ∧ s'.os = s₁.os ∧ AllBare s'.gens) s₁ := by
  have rv := vals_ints hi
  have lenV := hi.length
  -- from an abstract heap in which nothing but the script may be tracked
  have core : ∀ H : Hp, Only H → SqL K H a (ns.map V.int) → HOk P w H s₁.heap → (∀ b, H b ≠ none → b = a) → (H a ≠ none → K.lookup a = none) →
      codeAny (model P w) callerA (.call (.ref fa) ⟨[.ref a], []⟩) (fun r s' => r = .ok (.ret (.bool true)) ∧ OldK s₁.heap s'.heap ∧ s'.os = s₁.os ∧ AllBare s'.gens) s₁ := by
    intro H hO hS hok hA hK
    have base_of : ∀ {b : Addr} {o : Obj}, s₁.heap.get? b = some o → H b = none → (hidT s₁.heap H).get? b = some o := fun e n => hidT_get e n
    have noA : ∀ {b : Addr} {o : Obj} {es : Array DictEntry} {ep : Nat}, s₁.heap.get? b = some o → o.data = .dict es ep → H b = none := fun {b o es ep} e d => by
      cases q : H b with
      | none => rfl
      | some u =>
        have e' : b = a := hA b (by rw [q]; simp)
        subst e'
        rw [ha] at e; cases e
        have d' : Data.seq vs.toArray _ = Data.dict es ep := d
        cases d'
    have nsK : ∀ {b : Addr} {m : Str → Option Value}, s₁.heap.Ns b m → (hidT s₁.heap H).Ns b m := fun {b m} ⟨o, es, ep, e, d, r⟩ => ⟨o, es, ep, base_of e (noA e d), d, r⟩
    have hKb : K.In (hidT s₁.heap H) := fun b o e => base_of (KX b o e) (by
      cases q : H b with
      | none => rfl
      | some u =>
        have e' : b = a := hA b (by rw [q]; simp)
        subst e'
        rw [hK (by rw [q]; simp)] at e; cases e)
    have hM : Mod K mg (hidT s₁.heap H) := ⟨hKb, nsK hns, ⟨mb, nsK hb, hbb⟩, let ⟨mc, h1, h2⟩ := hlim; ⟨mc, nsK h1, h2⟩⟩
    have e0 : Env0 P w K mg (hidT s₁.heap H) callerA [] s₁ H := ⟨rfl, hM, fun b o e => of_hidT e, Nat.le_of_eq (hidT_size _ _), trivial, fun b hb => absurd (show b ∈ ([] : List Addr) from hb) (by simp), hok, .of_eq hg⟩
    refine codeAny_mono ((F _ hKb (nsK hns)).run callerA [] s₁ H ⟨[.ref a], []⟩ [.ref a] [.ref a] _ _ hr e0 (hbind s₁ (.ref a)) (.cons rfl .nil) (hsp H hO hS)) fun r s' h => ?_
    cases r with
    | error e => exact (hCX H e s' h).elim
    | ok fl =>
      cases fl with
      | next => exact False.elim h
      | brk => exact False.elim h
      | cont => exact False.elim h
      | ret u =>
        obtain ⟨v, H', os, bare, un, hok', r', q⟩ := h
        have q' : v = .bl true := q
        subst q'
        obtain rfl : u = Value.bool true := r'
        refine ⟨rfl, OldK.of_keep fun b o e => ?_, os, bare⟩
        cases q : H b with
        | none => exact un.keep b o e q (by intro z; exact absurd (show b ∈ ([] : List Addr) from z) (by simp)) (by simp)
        | some u =>
          rcases hO b with z | ⟨ob, xs, z⟩
          · rw [q] at z; cases z
          · have z2 := un.frzs b ob _ z
            obtain ⟨e1, _⟩ := hok b _ z
            obtain ⟨e2, _⟩ := hok' b _ z2
            rw [e] at e1; cases e1
            exact e2
  cases hk : K.lookup a with
  | some o =>
    -- the script is one of the module's own objects
    have e := KX a o hk
    rw [ha] at e
    cases e
    refine core (fun _ => none) (fun _ => .inl rfl) (.inr ⟨_, vs.toArray, _, hk, rfl, rfl, rfl, by rw [List.size_toArray, lenV]; exact hl, by simpa using rv⟩) (fun b u z => by have z' : (none : Option HO) = some u := z; cases z') (fun b z => absurd rfl z) fun z => absurd rfl z
  | none =>
    refine core (fun b => if b = a then some (.frz { cls := .type "list", data := .seq vs.toArray } (.lst (ns.map V.int))) else none) (fun b => ?_) (.inl (.inr ⟨{ cls := .type "list", data := .seq vs.toArray }, if_pos rfl⟩)) (fun b u z => ?_) (fun b z => ?_) fun _ => hk
    · by_cases hb : b = a
      · exact .inr ⟨_, _, if_pos hb⟩
      · exact .inl (if_neg hb)
    · by_cases hb : b = a
      · have z' := (if_pos hb).symm.trans z
        cases z'
        subst hb
        exact ⟨ha, by rw [List.length_map]; exact hl, vs, _, rv, ha⟩
      · have z' := (if_neg hb).symm.trans z
        cases z'
    · by_cases hb : b = a
      · exact hb
      · exact absurd (if_neg hb) z
end L2
namespace L2
open PySem PySem.Spec PyProof.Rows
end L2
namespace L2
open PySem PySem.Spec PyProof.Rows
noncomputable def defArgs (s : Stmt) : Arguments := match s with
  | .FunctionDef _ a _ _ _ _ _ _ _ _ => a
  | _ => { posonlyargs := [], args := [], vararg := none, kwonlyargs := [], kw_defaults := [], kwarg := none, defaults := [] }
noncomputable def defBody (s : Stmt) : List Stmt := match s with
  | .FunctionDef _ _ b _ _ _ _ _ _ _ => b
  | _ => []
noncomputable def defScope (s : Stmt) : Scope := match s with
  | .FunctionDef _ _ _ _ _ _ sc _ _ _ => sc
  | _ => { kind := .function, names := [], isGenerator := false, isCoroutine := false }
noncomputable abbrev CX0 : CXT := fun _ _ _ _ _ _ => False
noncomputable abbrev E0 : XK := fun _ _ _ => False
theorem pass0 {X : Cx} : Passes CX0 X E0 := fun _ _ _ _ _ _ _ h => h.elim
structure Fun (K : PySem.W.Frag) (x qual : Str) (st : Stmt) (f : Addr) (fd : FuncData) : Prop where
  ex : ∃ (oc : Value) (od : Option Addr) (kV doc pm : Value) (an : Option Addr) (cdv ct : Value) (osl : Array (Option Value)),
    fd = PySem.W.fnOf x qual (defArgs st) (defBody st) (defScope st) .none kV doc pm an cdv ct ∧ K.lookup f = some ⟨oc, od, .func fd, osl⟩ ∧ PySem.W.codeIn K cdv qual = true
  kp : PySem.W.keepIn K (.ref f) = true
section
variable {P : Program} {w : World} {K : PySem.W.Frag} {mg : Str → Option Value} {base : Heap}
theorem Fun.ok {x qual : Str} {st : Stmt} {f : Addr} {fd : FuncData} {N ps : List Str} {k : Nat} {sp : Sp} (F : Fun K x qual st f fd) (S : FnScope N ps (defScope st)) (len : ∀ vs H Q E, sp vs H Q E → vs.length = ps.length)
    (hbody : ∀ (cdv : Value) (A : Around) (outer : List Env) (s : Shared) (H : Hp) (vs : List V) (Q : VK) (E : XK), Room k (A.deeper (envOfC qual (defScope st) s.heap.objs.size f cdv)) → sp vs H Q E →
      ∃ t, PSs (cxOf CX0 P w K mg base N qual (defScope st) f cdv A outer s H E).nox (defBody st) t ∧ t { nx := fun _ H' => Q .non H', rt := Q } (start N vs) H) : FnOk P w K mg base CX0 (k + 1) f fd ps sp := by
  obtain ⟨oc, od, kV, doc, pm, an, cdv, ct, osl, rfl, lk, hcd⟩ := F.ex
  refine fn_of lk hcd S len fun A outer s H vs Q E hr hsp => ?_
  obtain ⟨t, h, q⟩ := hbody cdv A outer s H vs Q E hr hsp
  exact ⟨t, h.nox, q⟩
theorem Fun.binds {x qual : Str} {st : Stmt} {f : Addr} {fd : FuncData} {ps : List Str} (F : Fun K x qual st f fd)
    (h : ∀ (kV doc pm : Value) (an : Option Addr) (cdv ct : Value) (us : List Value), us.length = ps.length → bindArgs (PySem.W.fnOf x qual (defArgs st) (defBody st) (defScope st) .none kV doc pm an cdv ct) ⟨us, []⟩ = pure (ps.zip us)) : Binds K fd ps [] := by
  obtain ⟨oc, od, kV, doc, pm, an, cdv, ct, osl, rfl, lk, hcd⟩ := F.ex
  exact .all (h kV doc pm an cdv ct)
theorem fun_mk {x qual : Str} {st : Stmt} {f : Addr} {oc : Value} {od an : Option Addr} {osl : Array (Option Value)} {kV doc pm cdv ct : Value} (l : K.lookup f = some ⟨oc, od, .func (PySem.W.fnOf x qual (defArgs st) (defBody st) (defScope st) .none kV doc pm an cdv ct), osl⟩)
    (c : PySem.W.codeIn K cdv qual = true) (k : PySem.W.keepIn K (.ref f) = true) : Fun K x qual st f (PySem.W.fnOf x qual (defArgs st) (defBody st) (defScope st) .none kV doc pm an cdv ct) := ⟨⟨oc, od, kV, doc, pm, an, cdv, ct, osl, rfl, l, c⟩, k⟩
end
theorem hu_of {A : Around} {k : Nat} (hr : Room k A) : A.units + 1 < cLine := Nat.lt_of_le_of_lt (Nat.add_le_add_left (by decide : 1 ≤ 64) _) hr.units
section
variable {X : Cx}
end
theorem ite2 {c A B : Prop} [Decidable c] (h1 : c → A) (h2 : ¬ c → B) : if c then A else B := by
  by_cases h : c
  · rw [if_pos h]
    exact h1 h
  · rw [if_neg h]
    exact h2 h
noncomputable def Same (H H' : Hp) : Prop := ∀ b o, H b = some o → H' b = some o
theorem Same.refl (H : Hp) : Same H H := fun _ _ h => h
theorem Same.trans {H H1 H2 : Hp} (a : Same H H1) (b : Same H1 H2) : Same H H2 := fun c o h => b c o (a c o h)
end L2
namespace L2
open PySem PySem.Spec PyProof.Rows
section
variable {X : Cx}
theorem call_lenD : CallR X (.builtin "len") (fun xs H Q => ∃ a kvs, xs = [V.ref a] ∧ H a = some (.dK kvs) ∧ Q (.int kvs.length) H) := by
  intro pins s σ H xs us Q I r h
  obtain ⟨a, kvs, rfl, ha, q⟩ := h
  obtain ⟨u, rfl, ru⟩ := vals1 r
  cases ru
  exact d_len I (.inl ha) fun t s' I' => ⟨.int kvs.length, H, I', ⟨t, rfl⟩, q⟩
end
section
variable {κ : Type} [DecidableEq κ]
theorem valV_in {kvs : List (κ × V)} {k : κ} {v : V} (h : valV kvs k = some v) : k ∈ kvs.map (·.1) := by
  have q : (kvs.any fun kv => decide (kv.1 = k)) = true := by
    rw [valV_any, h]
    all_goals rfl
  obtain ⟨p, hp, e⟩ := List.any_eq_true.mp q
  exact List.mem_map.mpr ⟨p, hp, of_decide_eq_true e⟩
end
end L2
set_option maxHeartbeats 4000000
namespace L2
open PySem PySem.Spec PyProof.Rows
noncomputable def relabelS (scope sc : Scope) : Scope :=
  { scope with names := scope.names.map fun (n, k) => if (k == .free && sc.kind == .function && sc.names.lookup n == some .cell) then (n, .cell) else (n, k) }
structure BI where
  cells : List (Str × Addr)
  C : Addr
  s : Shared
  H : Hp
  fp : List Addr
  pins : List (Addr × Obj)
noncomputable def envB (scope : Scope) (cells : List (Str × Addr)) (C : Addr) (env : Env) : Env :=
  { scope := relabelS scope env.scope, locals := C, globals := env.globals, cells := cells, qual := env.qual, func := none, code := env.code, frame := env.frame, builtins := env.builtins }
noncomputable def blk (X : Cx) (scope : Scope) (N : List Str) (b : BI) : Cx where
  prog := X.prog
  w := X.w
  K := X.K
  mg := X.mg
  base := X.base
  A := X.A
  N := N
  s₀ := b.s
  H₀ := b.H
  env := envB scope b.cells b.C X.env
  outer := X.stack
  stack := X.stack
  ex := b.fp
  fn := fun x => scope.names.lookup x == some .cell
  calm := X.calm
  pn := X.pn ++ b.pins
  xe := fun _ _ => False
noncomputable def closOf (env : Env) : List (Str × NameKind) → List (Str × Addr) → List (Str × Addr)
  | [], acc => acc
  | (n, k) :: r, acc => if k == .free then closOf env r ((n, (env.cells.lookup n).getD 0) :: acc) else closOf env r acc
theorem forIn_clos (env : Env) (f : Str × NameKind → List (Str × Addr) → Sem (ForInStep (List (Str × Addr))))
    (hf : ∀ n k cs, f (n, k) cs = if k == .free then (cellOf env n >>= fun a => pure (.yield ((n, a) :: cs))) else pure (.yield cs)) :
    ∀ (names : List (Str × NameKind)) (acc : List (Str × Addr)), (∀ y ∈ names, y.2 = .free → ∃ c, env.cells.lookup y.1 = some c) → forIn names acc f = (pure (closOf env names acc) : Sem _)
  | [], acc, _ => by rw [List.forIn_nil]; rfl
  | (n, k) :: r, acc, h => by
    rw [List.forIn_cons, hf]
    have hr : ∀ y ∈ r, y.2 = .free → ∃ c, env.cells.lookup y.1 = some c := fun y hy => h y (List.mem_cons_of_mem _ hy)
    cases hk : k == NameKind.free with
    | true =>
      obtain ⟨c, hc⟩ := h (n, k) List.mem_cons_self (beq_iff_eq.mp hk)
      have e1 : cellOf env n = pure c := by unfold cellOf; rw [show env.cells.lookup n = some c from hc]
      have e2 : closOf env ((n, k) :: r) acc = closOf env r ((n, c) :: acc) := by
        show (if (k == NameKind.free) = true then _ else _) = _
        rw [if_pos hk, show env.cells.lookup n = some c from hc]; rfl
      rw [e2, if_pos rfl, e1]
      exact forIn_clos env f hf r ((n, c) :: acc) hr
    | false =>
      have e2 : closOf env ((n, k) :: r) acc = closOf env r acc := by
        show (if (k == NameKind.free) = true then _ else _) = _
        rw [if_neg (by rw [hk]; exact Bool.false_ne_true)]
      rw [e2, if_neg Bool.false_ne_true]
      exact forIn_clos env f hf r acc hr
theorem closureFor_eq {scope : Scope} {env : Env} (h : ∀ y ∈ scope.names, y.2 = .free → ∃ c, env.cells.lookup y.1 = some c) : closureFor scope env = pure (closOf env scope.names []) := by
  simp only [closureFor]
  rw [forIn_clos env _ (fun n k cs => by cases hk : k == NameKind.free <;> simp [hk]) scope.names [] h]
  rfl
theorem closOf_look {env : Env} {x : Str} {c : Addr} : ∀ (names : List (Str × NameKind)) (acc : List (Str × Addr)), (closOf env names acc).lookup x = some c → acc.lookup x = some c ∨ ((x, NameKind.free) ∈ names ∧ c = (env.cells.lookup x).getD 0)
  | [], _, h => .inl h
  | (n, k) :: r, acc, h => by
    unfold closOf at h
    by_cases hk : (k == NameKind.free) = true
    · rw [if_pos hk] at h
      rcases closOf_look r _ h with z | ⟨z, e⟩
      · rw [List.lookup_cons] at z
        cases hx : x == n with
        | true =>
          rw [hx] at z
          have e1 : x = n := beq_iff_eq.mp hx
          have e2 : k = NameKind.free := beq_iff_eq.mp hk
          exact .inr ⟨by rw [e1, e2]; exact List.mem_cons_self, by rw [e1]; exact (Option.some.inj z).symm⟩
        | false => rw [hx] at z; exact .inl z
      · exact .inr ⟨List.mem_cons_of_mem _ z, e⟩
    · rw [if_neg hk] at h
      rcases closOf_look r _ h with z | ⟨z, e⟩
      · exact .inl z
      · exact .inr ⟨List.mem_cons_of_mem _ z, e⟩
theorem closOf_has {env : Env} {x : Str} : ∀ (names : List (Str × NameKind)) (acc : List (Str × Addr)), ((x, NameKind.free) ∈ names ∨ ∃ c, acc.lookup x = some c) → ∃ c, (closOf env names acc).lookup x = some c
  | [], _, h => h.elim (fun z => nomatch z) fun z => z
  | (n, k) :: r, acc, h => by
    unfold closOf
    by_cases hk : (k == NameKind.free) = true
    · rw [if_pos hk]
      refine closOf_has r _ ?_
      by_cases hx : x = n
      · exact .inr ⟨_, by rw [List.lookup_cons, beq_iff_eq.mpr hx]⟩
      · rcases h with z | ⟨c, z⟩
        · rcases List.mem_cons.mp z with e | z
          · exact absurd (congrArg Prod.fst e) hx
          · exact .inl z
        · exact .inr ⟨c, by rw [List.lookup_cons, beq_eq_false_iff_ne.mpr hx]; exact z⟩
    · rw [if_neg hk]
      refine closOf_has r _ ?_
      rcases h with z | z
      · rcases List.mem_cons.mp z with e | z
        · have e2 : NameKind.free = k := congrArg Prod.snd e
          exact absurd (beq_iff_eq.mpr e2.symm) hk
        · exact .inl z
      · exact .inr z
theorem cellsFrom_split : ∀ (names : List (Str × NameKind)) (n : Nat) (acc : List (Str × Addr)), cellsFrom n names acc = cellsFrom n names [] ++ acc
  | [], _, _ => rfl
  | (x, k) :: r, n, acc => by
    unfold cellsFrom
    split
    · rw [cellsFrom_split r (n + 1) ((x, n) :: acc), cellsFrom_split r (n + 1) [(x, n)], List.append_assoc]; rfl
    · exact cellsFrom_split r n acc
theorem cellsFrom_kind {x : Str} {c : Addr} : ∀ (names : List (Str × NameKind)) (n : Nat) (acc : List (Str × Addr)), (x, c) ∈ cellsFrom n names acc → (x, c) ∈ acc ∨ (x, NameKind.cell) ∈ names
  | [], _, _, h => .inl h
  | (y, k) :: r, n, acc, h => by
    unfold cellsFrom at h
    split at h
    · rename_i hk
      rcases cellsFrom_kind r _ _ h with z | z
      · rcases List.mem_cons.mp z with e | z
        · have e1 : x = y := congrArg Prod.fst e
          rw [e1, ← beq_iff_eq.mp hk]; exact .inr List.mem_cons_self
        · exact .inl z
      · exact .inr (List.mem_cons_of_mem _ z)
    · rcases cellsFrom_kind r _ _ h with z | z
      · exact .inl z
      · exact .inr (List.mem_cons_of_mem _ z)
theorem lookup_append {α : Type} {x : Str} : ∀ (l m : List (Str × α)), (l ++ m).lookup x = match l.lookup x with | some c => some c | none => m.lookup x
  | [], m => rfl
  | (y, c) :: l, m => by
    rw [List.cons_append, List.lookup_cons, List.lookup_cons]
    cases x == y with
    | true => rfl
    | false => exact lookup_append l m
theorem lookup_none_of {α : Type} {x : Str} : ∀ {l : List (Str × α)}, (∀ c, (x, c) ∉ l) → l.lookup x = none
  | [], _ => rfl
  | (y, c) :: l, h => by
    rw [List.lookup_cons]
    have hx : x ≠ y := fun e => h c (by rw [e]; exact List.mem_cons_self)
    rw [beq_eq_false_iff_ne.mpr hx]
    exact lookup_none_of fun c hc => h c (List.mem_cons_of_mem _ hc)
theorem relabelS_look {sc : Scope} {x : Str} : ∀ (names : List (Str × NameKind)), (names.map fun (n, k) => if (k == NameKind.free && sc.kind == .function && sc.names.lookup n == some .cell) then (n, NameKind.cell) else (n, k)).lookup x =
    (names.lookup x).map fun k => if (k == NameKind.free && sc.kind == .function && sc.names.lookup x == some .cell) then NameKind.cell else k
  | [] => rfl
  | (n, k) :: r => by
    have ih := relabelS_look (sc := sc) (x := x) r
    rw [List.map_cons]
    by_cases hc : (k == NameKind.free && sc.kind == .function && sc.names.lookup n == some .cell) = true
    · show List.lookup x ((if (k == NameKind.free && sc.kind == .function && sc.names.lookup n == some .cell) = true then (n, NameKind.cell) else (n, k)) :: _) = _
      rw [if_pos hc, List.lookup_cons, List.lookup_cons]
      cases hx : x == n with
      | true =>
        have e : x = n := beq_iff_eq.mp hx
        subst e
        show some NameKind.cell = some (if (k == NameKind.free && sc.kind == .function && sc.names.lookup x == some .cell) = true then NameKind.cell else k)
        rw [if_pos hc]
      | false => exact ih
    · show List.lookup x ((if (k == NameKind.free && sc.kind == .function && sc.names.lookup n == some .cell) = true then (n, NameKind.cell) else (n, k)) :: _) = _
      rw [if_neg hc, List.lookup_cons, List.lookup_cons]
      cases hx : x == n with
      | true =>
        have e : x = n := beq_iff_eq.mp hx
        subst e
        show some k = some (if (k == NameKind.free && sc.kind == .function && sc.names.lookup x == some .cell) = true then NameKind.cell else k)
        rw [if_neg hc]
      | false => exact ih
theorem newEnv_blk {M : Model} {A : Around} {E : Value → Shared → Prop} {s : Shared} {scope : Scope} {globals : Addr} {cl : List (Str × Addr)} {qual : Str} {env : Env} {Q : Env → Shared → Prop}
    (hQ : Q (newEnv scope s.heap.objs.size globals (cellsFrom (s.heap.objs.size + 1) scope.names cl) qual none .none (some env) builtinsNs) { s with heap := pushCells (s.heap.push { cls := .type "dict", data := .dict #[] }) scope.names }) :
    wpAny M A (newFunctionEnv scope globals cl [] qual none .none (some env)) Q E s := by
  simp only [newFunctionEnv, Option.isSome_some, if_true]
  refine wpAny_bind (wpAny_alloc ?_)
  refine wpAny_bind (wpAny_layCells _ (fun name kind cells => by cases hkc : kind == NameKind.cell <;> simp [hkc]) _ _ _ _ ?_)
  rw [show ({ s with heap := s.heap.push { cls := .type "dict", data := .dict #[] } } : Shared).heap.objs.size = s.heap.objs.size + 1 from Heap.size_push ..]
  simp only [List.forIn_nil]
  exact wpAny_bind (wpAny_pure (wpAny_pure hQ))
structure BlkS (scX scope : Scope) (N' own cp : List Str) (ixs : List Nat) : Prop where
  kind : scope.kind = .function
  nm : ∀ y ∈ scope.names, scope.names.lookup y.1 = some y.2
  free : ∀ y ∈ scope.names, y.2 = .free → scX.names.lookup y.1 = some .cell ∨ scX.names.lookup y.1 = some .free
  cap : ∀ x ∈ cp, scope.names.lookup x = some .free
  ix : ixs.map (fun i => N'[i]?) = cp.map some
  nd : (own ++ cp).Nodup
noncomputable def stB (own : List Str) (ix : List Nat) (σ : St) : St := own.map (fun _ => none) ++ ix.map fun i => (σ[i]?).getD none
end L2
namespace L2
open PySem PySem.Spec PyProof.Rows
section
variable {X : Cx} {pins : List (Addr × Obj)} {σ : St} {H : Hp} {s : Shared}
noncomputable abbrev hpB (s : Shared) (scope : Scope) : Heap := pushCells (s.heap.push { cls := .type "dict", data := .dict #[] }) scope.names
noncomputable abbrev clB (X : Cx) (s : Shared) (scope : Scope) : List (Str × Addr) := cellsFrom (s.heap.objs.size + 1) scope.names (closOf X.env scope.names [])
noncomputable abbrev biB (X : Cx) (pins : List (Addr × Obj)) (s : Shared) (H : Hp) (scope : Scope) (fp : List Addr) : BI := ⟨clB X s scope, s.heap.objs.size, s, H, fp, pins⟩
theorem hpB_keeps (s : Shared) (scope : Scope) (b : Addr) (o : Obj) (e : s.heap.get? b = some o) : (hpB s scope).get? b = some o := pushCells_keeps _ _ b o (Heap.get?_push_of_some _ e)
theorem ownB_ok (s : Shared) (scope : Scope) : CellsOk (hpB s scope) (s.heap.objs.size + 1) (cellsFrom (s.heap.objs.size + 1) scope.names []) := by
  have ok := cellsFrom_ok scope.names (s.heap.push { cls := .type "dict", data := .dict #[] }) (s.heap.objs.size + 1) [] ⟨fun _ _ hm => (nomatch hm), List.Pairwise.nil⟩ (by rw [Heap.size_push]; exact Nat.le_refl _)
  rw [Heap.size_push] at ok
  exact ok
theorem clB_look {scX scope : Scope} {N' own cap : List Str} {ix : List Nat} (S : BlkS scX scope N' own cap ix) (hX : X.env.scope = scX) (I : Inv X pins σ H s) {x : Str} {c : Addr} (h : (clB X s scope).lookup x = some c) :
    ((x, c) ∈ cellsFrom (s.heap.objs.size + 1) scope.names [] ∧ s.heap.objs.size + 1 ≤ c ∧ scope.names.lookup x = some .cell) ∨ (X.env.cells.lookup x = some c ∧ scope.names.lookup x = some .free) := by
  have h' : (cellsFrom (s.heap.objs.size + 1) scope.names (closOf X.env scope.names [])).lookup x = some c := h
  rw [cellsFrom_split, lookup_append] at h'
  cases e : (cellsFrom (s.heap.objs.size + 1) scope.names []).lookup x with
  | some c' =>
    rw [e] at h'
    cases h'
    have m := PySem.mem_of_lookup e
    refine .inl ⟨m, ((ownB_ok s scope).empty _ _ m).2, ?_⟩
    rcases cellsFrom_kind _ _ _ m with z | z
    · exact nomatch z
    · exact S.nm _ z
  | none =>
    rw [e] at h'
    rcases closOf_look _ _ h' with z | ⟨z, ec⟩
    · exact nomatch z
    · have hf := S.free _ z rfl
      rw [← hX] at hf
      obtain ⟨c', e'⟩ := I.ok.has x hf
      rw [e'] at ec
      exact .inr ⟨by rw [e', ec]; rfl, S.nm _ z⟩
theorem clB_free {scX scope : Scope} {N' own cap : List Str} {ix : List Nat} (S : BlkS scX scope N' own cap ix) (hX : X.env.scope = scX) (I : Inv X pins σ H s) {x : Str} (hx : scope.names.lookup x = some .free) :
    ∃ c, X.env.cells.lookup x = some c ∧ (clB X s scope).lookup x = some c := by
  have m := PySem.mem_of_lookup hx
  have hf := S.free _ m rfl
  rw [← hX] at hf
  obtain ⟨c, e⟩ := I.ok.has x hf
  refine ⟨c, e, ?_⟩
  have n1 : (cellsFrom (s.heap.objs.size + 1) scope.names []).lookup x = none := lookup_none_of fun c' hc' => by
    rcases cellsFrom_kind _ _ _ hc' with z | z
    · exact nomatch z
    · have := S.nm _ z
      rw [hx] at this
      cases this
  obtain ⟨c', e'⟩ := closOf_has (env := X.env) (x := x) scope.names [] (.inl m)
  show (cellsFrom (s.heap.objs.size + 1) scope.names (closOf X.env scope.names [])).lookup x = some c
  rw [cellsFrom_split, lookup_append, n1]
  show (closOf X.env scope.names []).lookup x = some c
  rcases closOf_look _ _ e' with z | ⟨_, z⟩
  · exact nomatch z
  · rw [e', z, e]; rfl
theorem kindB {scope sc : Scope} {x : Str} : (relabelS scope sc).names.lookup x = (scope.names.lookup x).map fun k => if (k == NameKind.free && sc.kind == .function && sc.names.lookup x == some .cell) then NameKind.cell else k := relabelS_look scope.names
theorem locB {scX scope : Scope} {own cap : List Str} {ix : List Nat} (S : BlkS scX scope X.N own cap ix) (hX : X.env.scope = scX) (I : Inv X pins σ H s) {h' : Heap} {m : Str → Option Value} (keep : ∀ x c v, X.env.cells.lookup x = some c → s.heap.IsCell c v → h'.IsCell c v)
    (i : Nat) (x : Str) (v : V) (e1 : (own ++ cap)[i]? = some x) (e2 : (stB own ix σ)[i]? = some (some v)) : ∃ u, RelV v u ∧ Look (envB scope (clB X s scope) s.heap.objs.size X.env) h' m x u := by
  have hi : ¬ i < own.length := fun hi => by
    unfold stB at e2
    rw [List.getElem?_append_left (by simpa using hi), List.getElem?_map] at e2
    cases q : own[i]? with
    | none => rw [q] at e2; cases e2
    | some y => rw [q] at e2; cases e2
  have e1' : cap[i - own.length]? = some x := by
    rw [List.getElem?_append_right (by omega)] at e1
    exact e1
  have e2' : ∃ k, ix[i - own.length]? = some k ∧ σ[k]? = some (some v) := by
    unfold stB at e2
    rw [List.getElem?_append_right (by simpa using Nat.le_of_not_lt hi), List.getElem?_map, List.length_map] at e2
    cases q : ix[i - own.length]? with
    | none => rw [q] at e2; cases e2
    | some k =>
      rw [q] at e2
      have e3 : (σ[k]?).getD none = some v := Option.some.inj e2
      cases q2 : σ[k]? with
      | none => rw [q2] at e3; cases e3
      | some z =>
        rw [q2] at e3
        exact ⟨k, rfl, by rw [q2, show z = some v from e3]⟩
  obtain ⟨k, hk, hv⟩ := e2'
  have hN : X.N[k]? = some x := by
    have z := congrArg (fun l => l[i - own.length]?) S.ix
    simp only [List.getElem?_map] at z
    rw [hk, e1'] at z
    exact Option.some.inj z
  have hx := S.cap x (List.mem_of_getElem? e1')
  have m' := PySem.mem_of_lookup hx
  have hf := S.free _ m' rfl
  rw [← hX] at hf
  obtain ⟨m0, _, hl⟩ := I.loc
  obtain ⟨u, r, l⟩ := hl k x v hN hv (hf.elim (fun z => .inr (.inl z)) fun z => .inr (.inr z))
  refine ⟨u, r, ?_⟩
  have l' : ∃ c, X.env.cells.lookup x = some c ∧ s.heap.IsCell c (some u) := by
    rcases l with ⟨z, _⟩ | ⟨_, c, z, q⟩
    · rcases hf with y | y
      · rw [show X.env.kindOf x = some .cell from y] at z; cases z
      · rw [show X.env.kindOf x = some .free from y] at z; cases z
    · exact ⟨c, z, q⟩
  obtain ⟨c, ec, hc⟩ := l'
  obtain ⟨c', ec', eb⟩ := clB_free S hX I hx
  rw [ec] at ec'
  cases ec'
  refine .inr ⟨?_, c, eb, keep x c _ ec hc⟩
  have kb : (envB scope (clB X s scope) s.heap.objs.size X.env).kindOf x = some (if (NameKind.free == NameKind.free && X.env.scope.kind == .function && X.env.scope.names.lookup x == some .cell) then NameKind.cell else NameKind.free) := by
    show (relabelS scope X.env.scope).names.lookup x = _
    rw [kindB, hx]; rfl
  rw [kb]
  by_cases q : (NameKind.free == NameKind.free && X.env.scope.kind == .function && X.env.scope.names.lookup x == some .cell) = true
  · rw [if_pos q]; exact .inl rfl
  · rw [if_neg q]; exact .inr rfl
theorem blk_inv {scX scope : Scope} {own cap : List Str} {ix : List Nat} {fp : List Addr} (S : BlkS scX scope X.N own cap ix) (hX : X.env.scope = scX) (I : Inv X pins σ H s) (hf : ∀ b ∈ fp, FpOk X pins H b) (ho : ∀ b ∈ fp, ∃ o, s.heap.get? b = some o) :
    Inv (blk X scope (own ++ cap) (biB X pins s H scope fp)) [] (stB own ix σ) H { s with heap := hpB s scope } := by
  have kp := hpB_keeps s scope
  have own1 := ownB_ok s scope
  have ltC : ∀ x c, X.env.cells.lookup x = some c → c < s.heap.objs.size := fun x c e => by
    obtain ⟨v, o, e', _⟩ := I.cell x c e
    exact Heap.lt_size e'
  have ltF : ∀ b ∈ fp, b < s.heap.objs.size := fun b hb => let ⟨_, e⟩ := ho b hb; Heap.lt_size e
  have nstk : ∀ b, b ≠ X.env.locals → b ∉ X.fs → b ∉ frs X.stack := fun b h1 h2 hb => by
    rcases List.mem_cons.mp (I.stkSub b hb) with e | e
    · exact h1 e
    · exact h2 e
  refine ⟨⟨I.ok.mod, S.kind, I.ok.glob, I.ok.blt, Nat.le_refl _, fun x y c h1 h2 => ?_, fun x hx => ?_, fun x c hx h => ?_, I.ok.hd, I.ok.frames, .inl rfl, fun b hb => ⟨?_, fun x c h => ?_⟩, I.bs, Nat.le_trans I.ok.bsz I.sz, fun b o e hb => ?_, fun b hb => ?_, I.stack, I.stkFree⟩,
    rfl, I.bare, Un.kept kp, ⟨fun _ => none, ?_, fun i x v e1 e2 _ => locB S hX I (fun x c v _ hc => hc.keeps kp) i x v e1 e2⟩, fun x c h => ?_, I.hok.fresh (Nat.le_refl _), fun x c h => ?_, fun p hp => ?_, I.hok.kept kp, ?_⟩
  · rcases clB_look S hX I h1 with ⟨m1, l1, _⟩ | ⟨m1, _⟩ <;> rcases clB_look S hX I h2 with ⟨m2, l2, _⟩ | ⟨m2, _⟩
    · exact name_of_addr own1.apart m1 m2
    · exact absurd (Nat.lt_of_lt_of_le (ltC _ _ m2) (Nat.le_of_succ_le l1)) (Nat.lt_irrefl _)
    · exact absurd (Nat.lt_of_lt_of_le (ltC _ _ m1) (Nat.le_of_succ_le l2)) (Nat.lt_irrefl _)
    · exact I.ok.inj x y c m1 m2
  · have hx' : (relabelS scope X.env.scope).names.lookup x = some .cell ∨ (relabelS scope X.env.scope).names.lookup x = some .free := hx
    rw [kindB] at hx'
    cases q : scope.names.lookup x with
    | none => rw [q] at hx'; rcases hx' with z | z <;> cases z
    | some k =>
      rw [q] at hx'
      cases k with
      | free => obtain ⟨c, _, e⟩ := clB_free S hX I q; exact ⟨c, e⟩
      | cell =>
        obtain ⟨c, e⟩ := cell_has (sc := scope) (n := s.heap.objs.size + 1) q
        refine ⟨c, ?_⟩
        show (cellsFrom (s.heap.objs.size + 1) scope.names (closOf X.env scope.names [])).lookup x = some c
        rw [cellsFrom_split, lookup_append, e]
      | _ => rcases hx' with z | z <;> cases z
  · have hx' : (scope.names.lookup x == some .cell) = true := hx
    rcases clB_look S hX I h with ⟨_, l1, _⟩ | ⟨_, z⟩
    · show s.heap.objs.size ≤ c; omega
    · rw [z] at hx'; exact absurd hx' (by decide)
  · exact Nat.ne_of_lt (ltF b hb)
  · rcases clB_look S hX I h with ⟨_, l1, _⟩ | ⟨z, _⟩
    · intro z; rw [z] at l1; exact absurd (Nat.lt_of_lt_of_le (ltF b hb) (Nat.le_of_succ_le l1)) (Nat.lt_irrefl _)
    · exact (hf b hb).2.2.2.2.1 x c z
  · rcases (hf b hb).2.2.2.1 with z | z
    · exact I.ok.noex b o e z
    · exact absurd (Nat.lt_of_lt_of_le (Nat.lt_of_lt_of_le (Heap.lt_size e) I.ok.bsz) z) (Nat.lt_irrefl _)
  · exact nstk b (hf b hb).2.1 (hf b hb).2.2.1
  · exact (Heap.Ns.new s.heap (.type "dict")).keeps (pushCells_keeps _ _)
  · rcases clB_look S hX I h with ⟨m1, _, _⟩ | ⟨z, _⟩
    · exact ⟨none, (own1.empty _ _ m1).1⟩
    · obtain ⟨v, q⟩ := I.cell x c z
      exact ⟨v, q.keeps kp⟩
  · rcases clB_look S hX I h with ⟨_, l1, _⟩ | ⟨z, _⟩
    · exact I.hok.fresh (by omega)
    · exact I.freeC x c z
  · have hp' : p ∈ X.pn ++ pins := by
      rcases List.mem_append.mp hp with z | z
      · exact z
      · exact nomatch z
    obtain ⟨e, n, ne, nf, d⟩ := I.pin p hp'
    exact ⟨kp _ _ e, n, Nat.ne_of_lt (Heap.lt_size e), nstk _ ne nf, d⟩
  · unfold stB
    show (own.map (fun _ => (none : Option V)) ++ ix.map fun i => (σ[i]?).getD none).length = (own ++ cap).length
    have z := congrArg List.length S.ix
    rw [List.length_map, List.length_map] at z
    rw [List.length_append, List.length_append, List.length_map, List.length_map, z]
theorem blk_reset {scX scope : Scope} {own cap : List Str} {ix : List Nat} {fp : List Addr} {pl : List (Addr × Obj)} {σ' : St} {H' : Hp} {s' : Shared} (S : BlkS scX scope X.N own cap ix) (hX : X.env.scope = scX) (I : Inv X pins σ H s) (hf : ∀ b ∈ fp, FpOk X pins H b)
    (J : Inv (blk X scope (own ++ cap) (biB X pins s H scope fp)) pl σ' H' s') : Inv (blk X scope (own ++ cap) (biB X pins s H scope fp)) pl (stB own ix σ) H' s' := by
  obtain ⟨m, hn, _⟩ := id J.loc
  refine ⟨J.ok, J.os, J.bare, J.base, ⟨m, hn, fun i x v e1 e2 _ => locB S hX I (fun x c v ec hc => ?_) i x v e1 e2⟩, J.cell, J.free, J.freeC, J.pin, J.hok, ?_⟩
  · obtain ⟨o, e, d⟩ := hc
    obtain ⟨sl, e'⟩ := J.base.any e (I.freeC x c ec) fun hb => (hf c hb).2.2.2.2.1 x c ec rfl
    exact ⟨_, e', d⟩
  · have z := congrArg List.length S.ix
    rw [List.length_map, List.length_map] at z
    show (stB own ix σ).length = (own ++ cap).length
    unfold stB
    rw [List.length_append, List.length_append, List.length_map, List.length_map, z]
theorem blk_out {scope : Scope} {own cap : List Str} {fp : List Addr} {σ' : St} {H' : Hp} {s' : Shared} {h' : Heap} (I : Inv X pins σ H s) (hf : ∀ b ∈ fp, FpOk X pins H b)
    (J : Inv (blk X scope (own ++ cap) (biB X pins s H scope fp)) [] σ' H' s') (hs : Heap.SameBut s.heap.objs.size s'.heap h') : Inv X pins σ H' { s' with heap := h' } := by
  have I1 : Inv X pins σ H' s' := I.call' (ch := fp) J.os J.base J.hok J.bare fun b hb => ⟨(hf b hb).2.2.2.1, (hf b hb).2.1, (hf b hb).2.2.2.2.1, (hf b hb).2.2.2.2.2⟩
  have n1 : s.heap.objs.size ≠ X.env.locals := Nat.ne_of_gt I.lt
  refine I1.turned (it := s.heap.objs.size) (t' := s'.toks) (fun b o hb e => (hs.2 b hb).trans e) J.free n1 (.inr I.sz) (fun x c e z => ?_) fun p hp z => ?_
  · obtain ⟨v, o, e', _⟩ := I.cell x c e
    exact absurd z (Nat.ne_of_lt (Heap.lt_size e'))
  · exact absurd z (Nat.ne_of_lt (Heap.lt_size (I.pin p hp).1))
end
noncomputable def PIf (X : Cx) (ifs : List Expr) (t : TT) : Prop :=
  ∀ (pins : List (Addr × Obj)) (s : Shared) (σ : St) (H : Hp) (Q : Bool → Hp → Prop), Inv X pins σ H s → t σ H Q →
    wpAny (model X.prog X.w) X.A (forIn ifs true fun c r => if r = true then do let ok ← isTrue c X.env (eval c X.env); pure (ForInStep.yield ok) else pure (ForInStep.yield r)) (TP X pins σ Q) X.xe s
noncomputable def tYes : TT := fun _ H Q => Q true H
theorem pif_nil {X : Cx} : PIf X [] tYes := fun _ _ _ H _ I h => wpAny_tests_nil ⟨H, I, h⟩
noncomputable def CTurn (J : It) (g : TG) (tt : TT) (act : St → Hp → (Hp → Prop) → Prop) (σ0 : St) (End : Hp → Prop) (W : Nat → Nat → Hp → Prop) : Prop :=
  ∀ i m H, W i m H → (J.stop i H ∧ End H) ∨ (J.go i H ∧ ∀ x H', J.yld i H x H' → g x σ0 H' fun σ2 H2 => tt σ2 H2 fun b H3 =>
    if b = true then act σ2 H3 fun H4 => ∃ m', m' < m ∧ W (i + 1) m' H4 else ∃ m', m' < m ∧ W (i + 1) m' H3)
noncomputable def aPut (D : Addr) (te : TE) : St → Hp → (Hp → Prop) → Prop := fun σ H R => te σ H fun y H4 => ∃ zs, H4 D = some (.lst zs) ∧ zs.length < sizeLine ∧ R (upd H4 D (.lst (zs ++ [y])))
noncomputable def tComp (own : List Str) (ix : List Nat) (wi : TI) (g : BI → TG) (tt : BI → TT) (te : BI → TE) : TE := fun σ H Q => wi σ H fun J H1 => ∀ D, H1 D = none →
  ∃ W : Nat → Nat → Hp → Prop, (∃ m, W 0 m (upd H1 D (.lst []))) ∧ ∀ b, CTurn J (g b) (tt b) (aPut D (te b)) (stB own ix σ) (fun H' => Q (.ref D) H') W
section
variable {X : Cx} {tg iter elt : Expr} {ifs : List Expr} {scope scX : Scope} {pos : Pos} {own cap : List Str} {ix : List Nat} {wi : TI} {g : BI → TG} {tt : BI → TT} {te : BI → TE}
theorem comp_loop {pins : List (Addr × Obj)} {σ : St} {H : Hp} {s : Shared} {J : It} {fp : List Addr} {it D : Addr} {tn : Nat → Heap → Prop} {End : Hp → Prop} {W : Nat → Nat → Hp → Prop} {m0 : Nat} {s4 : Shared}
    (S : BlkS scX scope X.N own cap ix) (hX : X.env.scope = scX) (I : Inv X pins σ H s) (hf : ∀ b ∈ fp, FpOk X pins H b) (hc : X.calm = true) (T : Turn X.prog X.w X.K tg J fp it tn)
    (hg : PG (blk X scope (own ++ cap) (biB X pins s H scope fp)) tg (g (biB X pins s H scope fp))) (ht : PIf (blk X scope (own ++ cap) (biB X pins s H scope fp)) ifs (tt (biB X pins s H scope fp)))
    (he : PE (blk X scope (own ++ cap) (biB X pins s H scope fp)) elt (te (biB X pins s H scope fp)))
    (hW : CTurn J (g (biB X pins s H scope fp)) (tt (biB X pins s H scope fp)) (aPut D (te (biB X pins s H scope fp))) (stB own ix σ) End W)
    (I4 : Inv (blk X scope (own ++ cap) (biB X pins s H scope fp)) [] (stB own ix σ) H s4) (st4 : tn 0 s4.heap) (w0 : W 0 m0 H) :
    codeAny (model X.prog X.w) X.A (.compLoop (.ListComp elt [⟨tg, iter, ifs, 0⟩] scope pos) 0 (.ref it) (.ref D) (envB scope (clB X s scope) s.heap.objs.size X.env))
      (fun r s' => ∃ H' σ', r = .ok .next ∧ Inv (blk X scope (own ++ cap) (biB X pins s H scope fp)) [] σ' H' s' ∧ End H') s4 := by
  have stat : ∀ {H' : Hp} {pl : List (Addr × Obj)}, (∀ b ∈ fp, H' b = none) → (∀ p ∈ pl, p.1 ∉ fp) → ∀ b ∈ fp, FpOk (blk X scope (own ++ cap) (biB X pins s H scope fp)) [] H' b := fun hn _ b hb => by
    refine ⟨hn b hb, (I4.ok.exf b hb).1, I4.ok.exfs b hb, .inl hb, (I4.ok.exf b hb).2, fun p hp => ?_⟩
    have hp' : p ∈ X.pn ++ pins := by
      rcases List.mem_append.mp hp with z | z
      · exact z
      · exact nomatch z
    exact (hf b hb).2.2.2.2.2 p hp'
  refine codeAny_loop rfl (fun n s' => ∃ i H', Inv (blk X scope (own ++ cap) (biB X pins s H scope fp)) [] (stB own ix σ) H' s' ∧ tn i s'.heap ∧ (∀ b ∈ fp, H' b = none) ∧ W i n H') ?_ m0 ⟨0, H, I4, st4, fun b hb => (hf b hb).1, w0⟩
  rintro n s3 ⟨i, H3, I3, st3, fr3, w3⟩
  show wpAny _ X.A ((compTurn (.ListComp elt [⟨tg, iter, ifs, 0⟩] scope pos) 0 (.ref it) (.ref D) (envB scope (clB X s scope) s.heap.objs.size X.env)).onRaise (fun x => do noteFrame x (envB scope (clB X s scope) s.heap.objs.size X.env); theTreesLotGoes x)) _ _ s3
  refine wpAny_noted ?_
  rw [compTurn_list]
  have st0 := stat (pl := []) fr3 (fun _ z => nomatch z)
  rcases hW i n H3 w3 with ⟨stop, qe⟩ | ⟨go, step⟩
  · refine wpAny_bind (wpAny_standAt (wpAny_bind (thn (T.done (blk X scope (own ++ cap) (biB X pins s H scope fp)) rfl rfl rfl hc i [] s3 _ H3 _ I3 st0 st3 stop) fun r s5 ⟨hr, I5⟩ => ?_)))
    subst hr
    exact wpAny_pure ⟨H3, _, rfl, I5, qe⟩
  · refine wpAny_bind (wpAny_standAt (wpAny_bind (thn (T.item (blk X scope (own ++ cap) (biB X pins s H scope fp)) rfl rfl rfl hc i [] s3 _ H3 _ I3 st0 st3 go) fun r s5 ⟨u, hr, h5⟩ => ?_)))
    subst hr
    refine wpAny_bind (thn h5 fun _ s6 ⟨x, H6, I6, r6, y6, st6, fr6⟩ => ?_)
    have I6' := I6.pinned (stat (pl := []) fr6 (fun _ z => nomatch z)) (T.obj _ _ st6)
    refine wpAny_bind (wpAny_mono (hg _ s6 _ H6 x u _ I6' r6 (step x H6 y6)) (fun _ s7 ⟨σ7, H7, I7, q7⟩ => ?_) fun _ _ f => f.elim)
    refine wpAny_bind (wpAny_mono (ht _ s7 σ7 H7 _ I7 q7) (fun ok s8 ⟨H8, I8, q8⟩ => ?_) fun _ _ f => f.elim)
    have again : ∀ {σ9 : St} {H9 : Hp} {s9 : Shared} {m' : Nat}, Inv (blk X scope (own ++ cap) (biB X pins s H scope fp)) ([] ++ pinsAt fp s6.heap) σ9 H9 s9 → m' < n → W (i + 1) m' H9 →
        ∃ m, m < n ∧ ∃ i H', Inv (blk X scope (own ++ cap) (biB X pins s H scope fp)) [] (stB own ix σ) H' s9 ∧ tn i s9.heap ∧ (∀ b ∈ fp, H' b = none) ∧ W i m H' := fun {σ9 H9 s9 m'} I9 hm w9 => by
      refine ⟨m', hm, i + 1, H9, blk_reset S hX I hf I9.unpinned, T.keep _ _ _ st6 fun b hb o e => (I9.pin (b, o) (List.mem_append_right _ (List.mem_append_right _ (mem_pinsAt hb e)))).1, fun b hb => ?_, w9⟩
      obtain ⟨o, e, d⟩ := T.obj _ _ st6 b hb
      exact (I9.pin (b, o) (List.mem_append_right _ (List.mem_append_right _ (mem_pinsAt hb e)))).2.1
    cases ok with
    | false =>
      obtain ⟨m', hm, w9⟩ := q8
      exact wpAny_pure ⟨rfl, again I8 hm w9⟩
    | true =>
      refine wpAny_bind (wpAny_bind (wpAny_mono (he _ s8 σ7 H8 _ I8 q8) (fun y s9 ⟨v, H9, I9, r9, zs, hD, hz, m', hm, w9⟩ => ?_) fun _ _ f => f.elim))
      refine wpAny_bind (wpAny_mono (mt_append (X := blk X scope (own ++ cap) (biB X pins s H scope fp)) _ s9 σ7 H9 (.ref D) [v] (.ref D) [y] (fun _ H' => ∃ m', m' < n ∧ W (i + 1) m' H') I9 rfl (.cons r9 .nil) ⟨D, zs, v, rfl, rfl, hD, hz, m', hm, w9⟩) (fun _ s10 ⟨_, H10, I10, _, m'', hm', w10⟩ => ?_) fun _ _ f => f.elim)
      exact wpAny_pure (wpAny_pure ⟨rfl, again I10 hm' w10⟩)
theorem comp_enter {pins : List (Addr × Obj)} {σ : St} {H : Hp} {s : Shared} {Q : VK} {use : Option (Value → Sem Unit)} {Q' : Value → Shared → Prop} (hc : X.calm = true) (hX : X.env.scope = scX) (S : BlkS scX scope X.N own cap ix) (hi : PI X tg iter wi)
    (hg : ∀ b, PG (blk X scope (own ++ cap) b) tg (g b)) (ht : ∀ b, PIf (blk X scope (own ++ cap) b) ifs (tt b)) (he : ∀ b, PE (blk X scope (own ++ cap) b) elt (te b))
    (hs : ∀ x, foldedSetIterable iter X.env x = pure x) (I : Inv X pins σ H s) (h : tComp own ix wi g tt te σ H Q)
    (out : ∀ (D C : Addr) (H' : Hp) (s' : Shared), Q (.ref D) H' → (∃ m, s'.heap.Ns C m) → FpOk X pins H' C → (∀ h', Heap.SameBut C s'.heap h' → Inv X pins σ H' { s' with heap := h' }) →
      compPost (model X.prog X.w) X.A X.xe use Q' (.ref D) C (.ok .next) s') :
    wpAny (model X.prog X.w) X.A (comprehension (.ListComp elt [⟨tg, iter, ifs, 0⟩] scope pos) scope X.env (firstIterPos [⟨tg, iter, ifs, 0⟩] pos) (newList []) false (eval iter X.env) use) Q' X.xe s := by
  have hclos := closureFor_eq (scope := scope) (env := X.env) fun y hy hk => by
    have hf := S.free y hy hk
    rw [← hX] at hf
    exact I.ok.has y.1 hf
  refine wpAny_comprehension_free (use := use) rfl hs hclos S.kind (fun y hy hk => by rw [S.nm y hy, hk]) (thn (hi pins s σ H _ I h) fun v s1 h1 => thn h1 fun itv s2 h2 => ?_)
  obtain ⟨it, fp, tn, J, H2, e, I2, T, st2, f2, hR⟩ := h2
  subst e
  refine wpAny_newObj_type ?_
  obtain ⟨W, ⟨m0, w0⟩, hW⟩ := hR s2.heap.objs.size I2.fresh
  have I3 : Inv X pins σ (upd H2 s2.heap.objs.size (.lst [])) { s2 with heap := s2.heap.push { cls := .type "list", data := .seq ([] : List Value).toArray } } := I2.lnew (t' := s2.toks) (its := []) .nil (Nat.zero_le _)
  have ltF : ∀ b ∈ fp, b < s2.heap.objs.size := fun b hb => let ⟨_, e, _⟩ := T.obj _ _ st2 b hb; Heap.lt_size e
  have f3 : ∀ b ∈ fp, FpOk X pins (upd H2 s2.heap.objs.size (.lst [])) b := fun b hb => ⟨by rw [upd_ne (Nat.ne_of_lt (ltF b hb))]; exact (f2 b hb).1, (f2 b hb).2⟩
  have st3 : tn 0 (s2.heap.push { cls := .type "list", data := .seq ([] : List Value).toArray }) := T.keep _ _ _ st2 fun b hb o e => Heap.get?_push_of_some _ e
  generalize hs3 : ({ s2 with heap := s2.heap.push { cls := .type "list", data := .seq ([] : List Value).toArray } } : Shared) = s3 at I3
  have st3' : tn 0 s3.heap := by rw [← hs3]; exact st3
  have ob3 : ∀ b ∈ fp, ∃ o, s3.heap.get? b = some o := fun b hb => let ⟨o, e, _⟩ := T.obj _ _ st3' b hb; ⟨o, e⟩
  have I4 := blk_inv S hX I3 f3 ob3
  have st4 : tn 0 (hpB s3 scope) := T.keep _ _ _ st3' fun b _ o e => hpB_keeps s3 scope b o e
  refine newEnv_blk ?_
  have loop := comp_loop (iter := iter) (pos := pos) S hX I3 f3 hc T (hg _) (ht _) (he _) (hW _) I4 st4 w0
  have fin : codeAny (model X.prog X.w) X.A (.compLoop (.ListComp elt [⟨tg, iter, ifs, 0⟩] scope pos) 0 (.ref it) (.ref s2.heap.objs.size) (envB scope (clB X s3 scope) s3.heap.objs.size X.env))
      (compPost (model X.prog X.w) X.A X.xe use Q' (.ref s2.heap.objs.size) s3.heap.objs.size) { s3 with heap := hpB s3 scope } := codeAny_mono loop fun r s' ⟨H', σ', hr, J', q⟩ => by
    subst hr
    exact out _ _ H' s' q (let ⟨m, hn, _⟩ := J'.loc; ⟨m, hn⟩) (I3.fpOk (Nat.le_refl _) J'.free) fun h' hh => blk_out I3 f3 J' hh
  exact codeAny_compStart_list fin (T.self _ 0 _ _ _ st4 fin)
theorem pe_comp (hc : X.calm = true) (hX : X.env.scope = scX) (S : BlkS scX scope X.N own cap ix) (hi : PI X tg iter wi) (hg : ∀ b, PG (blk X scope (own ++ cap) b) tg (g b)) (ht : ∀ b, PIf (blk X scope (own ++ cap) b) ifs (tt b))
    (he : ∀ b, PE (blk X scope (own ++ cap) b) elt (te b)) (hs : ∀ x, foldedSetIterable iter X.env x = pure x := by intro _; rfl) :
    PE X (.ListComp elt [⟨tg, iter, ifs, 0⟩] scope pos) (tComp own ix wi g tt te) := by
  intro pins s σ H Q I h
  rw [eval_ListComp]
  refine comp_enter (use := none) hc hX S hi hg ht he hs I h fun D C H' s' q hn _ hI => ?_
  obtain ⟨m, hn⟩ := hn
  exact ⟨m, hn, fun h' hh => ⟨.ref D, H', hI h' hh, rfl, q⟩⟩
theorem ps_setComp {i : Nat} {x : Str} {pos' spos : Pos} (hN : X.N.Nodup) (hx1 : X.N[i]? = some x) (hx : X.env.scope.names.lookup x = some .local) (hc : X.calm = true) (hX : X.env.scope = scX) (S : BlkS scX scope X.N own cap ix) (hi : PI X tg iter wi)
    (hg : ∀ b, PG (blk X scope (own ++ cap) b) tg (g b)) (ht : ∀ b, PIf (blk X scope (own ++ cap) b) ifs (tt b)) (he : ∀ b, PE (blk X scope (own ++ cap) b) elt (te b)) (hs : ∀ x, foldedSetIterable iter X.env x = pure x := by intro _; rfl)
    (hsw : swapsWith (.ListComp elt [⟨tg, iter, ifs, 0⟩] scope pos) (some (.Name x pos')) spos.line X.env = pure true := by rfl) :
    PS X (.Assign [.Name x pos'] (.ListComp elt [⟨tg, iter, ifs, 0⟩] scope pos) spos) (tAsg (tComp own ix wi g tt te) (gName i)) := by
  intro pins s σ H D I h
  rw [exec_Assign_Name_used _ _ _ _ hsw]
  refine wpAny_bind (wpAny_standAt (wpAny_bind ?_))
  show wpAny _ X.A (do let _ ← comprehension (.ListComp elt [⟨tg, iter, ifs, 0⟩] scope pos) scope X.env _ (newList []) false (eval iter X.env) (some (assign (.Name x pos') X.env))) _ _ s
  refine wpAny_bind (wpAny_mono (comp_enter (use := some (assign (.Name x pos') X.env)) (Q' := fun _ s' => SP X pins D .next s') hc hX S hi hg ht he hs I h fun D1 C H' s' q hn fC hI => ?_) (fun _ s' hq => wpAny_pure (wpAny_pure hq)) fun _ _ e => e)
  obtain ⟨m, hn⟩ := hn
  have I0 : Inv X pins σ H' s' := by
    have z := hI s'.heap (Heap.SameBut.refl ..)
    exact z
  show wpAny _ X.A (assign (.Name x pos') X.env (.ref D1)) _ _ _
  refine wpAny_assign_Name (store_ok2 I0 hN hx1 (.inl hx) (show RelV (.ref D1) (.ref D1) from rfl) (fun s2 I2 ⟨a, sb, ha⟩ => ?_) (.inr hx))
  have na : C ≠ a := by
    rcases ha with e | e
    · rw [e]; exact fC.2.1
    · intro z; exact fC.2.2.2.2.1 x a e z.symm
  refine ⟨m, hn.sameBut sb na, fun h' hh => ?_⟩
  refine ⟨_, H', ?_, q⟩
  exact I2.turned (it := C) (t' := s2.toks) (fun b o hb e => (hh.2 b hb).trans e) fC.1 fC.2.1 fC.2.2.2.1 fC.2.2.2.2.1 fC.2.2.2.2.2
end
end L2
namespace L2
open PySem PySem.Spec PyProof.Rows
noncomputable def Its (x : Str) : It := ⟨fun i _ => i < x.cps.size, fun i H v H' => H' = H ∧ ∃ c, x.cps[i]? = some c ∧ v = .str ⟨#[c]⟩, fun i _ => x.cps.size ≤ i⟩
theorem turn_strA {P : Program} {w : World} {K : PySem.W.Frag} {tg : Expr} (it : Addr) (x : Str) (t : Tok) : Turn P w K tg (Its x) [it] it (fun i h => h.IsStrIter it "str_ascii_iterator" x t i) where
  mem := by simp
  obj := fun i h st b hb => by
    have e : b = it := by simpa using hb
    subst e
    obtain ⟨o, e, c, d⟩ := st
    exact ⟨o, e, fun v z => by rw [d] at z; cases z⟩
  keep := fun i h h' st k => let ⟨o, e, r⟩ := st; ⟨o, k it (by simp) o e, r⟩
  item := by
    intro X hP hw hK hc i pins s σ H E I hf st hg
    subst hP hw hK
    have hg' : i < x.cps.size := hg
    obtain ⟨f0, f1, f2, f3, f4, f5⟩ := hf it (by simp)
    refine wpAny_pyNext_ascii_item st (c := x.cps[i]) (by simp [hg']) fun h' st' sb => ?_
    have I1 : Inv X pins σ H { s with heap := h', toks := s.toks + 1 } := I.turned (fun b o hb e => (sb.2 b hb).trans e) f0 f1 f3 f4 f5
    obtain ⟨o, e, c, d⟩ := id st'
    exact ⟨_, rfl, go_of (s := { s with heap := h', toks := s.toks + 1 }) e c d (by decide) ⟨.str ⟨#[x.cps[i]]⟩, H, I1, ⟨_, rfl⟩, ⟨rfl, _, by simp [hg'], rfl⟩, st', fun b hb => (hf b hb).1⟩⟩
  done := by
    intro X hP hw hK hc i pins s σ H E I hf st hg
    subst hP hw hK
    have hg' : x.cps.size ≤ i := hg
    obtain ⟨f0, f1, f2, f3, f4, f5⟩ := hf it (by simp)
    exact wpAny_pyNext_ascii_end (I.ok.hd hc) st (by simp [hg']) fun h' eb => ⟨rfl, I.turned (t' := s.toks) (fun b o hb e => eb b o hb e) f0 f1 f3 f4 f5⟩
  self := fun _ _ _ _ _ st h => wpAny_pyIter_striter_ascii st h
theorem turn_strW {P : Program} {w : World} {K : PySem.W.Frag} {tg : Expr} (it : Addr) (x : Str) (t : Tok) : Turn P w K tg (Its x) [it] it (fun i h => h.IsStrIter it "str_iterator" x t i) where
  mem := by simp
  obj := fun i h st b hb => by
    have e : b = it := by simpa using hb
    subst e
    obtain ⟨o, e, c, d⟩ := st
    exact ⟨o, e, fun v z => by rw [d] at z; cases z⟩
  keep := fun i h h' st k => let ⟨o, e, r⟩ := st; ⟨o, k it (by simp) o e, r⟩
  item := by
    intro X hP hw hK hc i pins s σ H E I hf st hg
    subst hP hw hK
    have hg' : i < x.cps.size := hg
    obtain ⟨f0, f1, f2, f3, f4, f5⟩ := hf it (by simp)
    refine wpAny_pyNext_wide_item st (c := x.cps[i]) (by simp [hg']) fun h' st' sb => ?_
    have I1 : Inv X pins σ H { s with heap := h', toks := s.toks + 1 } := I.turned (fun b o hb e => (sb.2 b hb).trans e) f0 f1 f3 f4 f5
    obtain ⟨o, e, c, d⟩ := id st'
    exact ⟨_, rfl, go_of (s := { s with heap := h', toks := s.toks + 1 }) e c d (by decide) ⟨.str ⟨#[x.cps[i]]⟩, H, I1, ⟨_, rfl⟩, ⟨rfl, _, by simp [hg'], rfl⟩, st', fun b hb => (hf b hb).1⟩⟩
  done := by
    intro X hP hw hK hc i pins s σ H E I hf st hg
    subst hP hw hK
    have hg' : x.cps.size ≤ i := hg
    obtain ⟨f0, f1, f2, f3, f4, f5⟩ := hf it (by simp)
    exact wpAny_pyNext_wide_end (I.ok.hd hc) st (by simp [hg']) fun h' eb => ⟨rfl, I.turned (t' := s.toks) (fun b o hb e => eb b o hb e) f0 f1 f3 f4 f5⟩
  self := fun _ _ _ _ _ st h => wpAny_pyIter_striter_wide st h
noncomputable def iStr (tl : TE) : TI := fun σ H R => tl σ H fun x H1 => ∃ z, x = .str z ∧ R (Its z) H1
theorem pi_str {X : Cx} {tg l : Expr} {tl : TE} (hl : PE X l tl) : PI X tg l (iStr tl) := by
  intro pins s σ H R I h
  refine thn (hl pins s σ H _ I h) fun v s1 ⟨x, H1, I1, r1, q1⟩ => ?_
  obtain ⟨z, e, q⟩ := q1
  subst e
  obtain ⟨t, rfl⟩ := r1
  have fp : ∀ b ∈ [s1.heap.objs.size], FpOk X pins H1 b := fun b hb => by
    have e : b = s1.heap.objs.size := by simpa using hb
    subst e
    exact I1.fpOk (Nat.le_refl _) (I1.hok.fresh (Nat.le_refl _))
  cases ha : z.cps.all (· < 128)
  · exact wpAny_pyIter_wide ha ⟨s1.heap.objs.size, [s1.heap.objs.size], _, _, H1, rfl, I1.kept (t' := s1.toks) fun b o e => Heap.get?_push_of_some _ e, turn_strW _ z t, ⟨_, Heap.get?_push_size _ rfl, rfl, rfl⟩, fp, q⟩
  · exact wpAny_pyIter_ascii ha ⟨s1.heap.objs.size, [s1.heap.objs.size], _, _, H1, rfl, I1.kept (t' := s1.toks) fun b o e => Heap.get?_push_of_some _ e, turn_strA _ z t, ⟨_, Heap.get?_push_size _ rfl, rfl, rfl⟩, fp, q⟩
section
variable {X : Cx}
theorem op_le_str : OpR X (compareOp .LtE) (fun x y H Q => ∃ i j, x = .str i ∧ y = .str j ∧ Q (.bl (!decide (j.cps.toList < i.cps.toList))) H) := by
  intro pins s σ H x y v u Q I rx ry h
  obtain ⟨i, j, rfl, rfl, q⟩ := h
  obtain ⟨t, rfl⟩ := rx
  obtain ⟨t', rfl⟩ := ry
  exact PySem.P.le_str ⟨.bl _, H, I, rfl, q⟩
theorem parts_of {v : Value} {o : Option Int} (p : IsPart v o) : ∃ l : Option (Int × Tok), v = partValue l ∧ l.map (·.1) = o := by
  cases p with
  | none => exact ⟨none, rfl, rfl⟩
  | int i t => exact ⟨some (i, t), rfl, rfl⟩
theorem sl_str : SlR X (fun x lo hi H Q => ∃ z, x = .str z ∧ z.length ≤ sizeLine ∧ Q (.str (Txt.slice z lo hi)) H) := by
  intro pins s σ H x v vl vu lo hi sl Q I rx hs pl pu h
  obtain ⟨z, rfl, hz, q⟩ := h
  obtain ⟨t, rfl⟩ := rx
  obtain ⟨l, e1, f1⟩ := parts_of pl
  obtain ⟨u, e2, f2⟩ := parts_of pu
  subst e1 e2 f1 f2
  refine ⟨"str", _, F.slot_str_getitem.lookup, typeIs_str _ _ _, wpAny_getItem_str_slice (l := l) (u := u) (st := none) hs rfl ?_⟩
  exact post_val_or_str ⟨Nat.le_trans (Txt.slice_le z _ _) hz, fun t' k => ⟨.str (Txt.slice z _ _), H, I.tok k, ⟨t', rfl⟩, q⟩⟩
theorem strs_of : ∀ {ys : List Str} {us : List Value}, Vals (ys.map V.str) us → StrsAre us ys := by
  intro ys
  induction ys with
  | nil => intro us r; rw [List.map_nil] at r; cases r; exact .nil
  | cons y ys ih =>
    intro us r
    rw [List.map_cons] at r
    cases r with
    | cons r1 r2 =>
      obtain ⟨t, e⟩ := r1
      subst e
      exact .cons y t (ih r2)
theorem bools_of : ∀ {bs : List Bool} {us : List Value}, Vals (bs.map V.bl) us → LSm.BoolsAre us bs := by
  intro bs
  induction bs with
  | nil => intro us r; rw [List.map_nil] at r; cases r; exact .nil
  | cons b bs ih =>
    intro us r
    rw [List.map_cons] at r
    cases r with
    | cons r1 r2 =>
      have e : _ = Value.bool b := r1
      subst e
      exact .cons b (ih r2)
theorem call_all (hc : X.calm = true) : CallR X (.builtin "all") (fun xs H Q => ∃ (p : Addr) (bs : List Bool), xs = [.ref p] ∧ SqL X.K H p (bs.map V.bl) ∧ Q (.bl (bs.all id)) H) := by
  intro pins s σ H xs us Q I r h
  obtain ⟨p, bs, rfl, hq, q⟩ := h
  obtain ⟨u, rfl, ru⟩ := vals1 r
  cases ru
  obtain ⟨its, rv, pl, _⟩ := I.list hq
  have hb := bools_of rv
  have hl := pl.isList
  have hlt : p < s.heap.objs.size := by obtain ⟨_, e, _⟩ := hl; exact Heap.lt_size e
  refine call_all_walk (wpAny_pyIter_list hl ?_)
  refine ⟨s.heap.objs.size, [s.heap.objs.size, p], [s.heap.objs.size], its.toArray.size, _, _, fun i => (bs[i]?).getD true, rfl, Walks.list (A := X.A.in1) (I.ok.hd hc) _ p (Nat.ne_of_lt hlt) its.toArray,
    ⟨⟨_, Heap.get?_push_size _ rfl, rfl, rfl⟩, hl.push _⟩, fun i v s' Q' E' hP hQ => ?_, fun h' tk hk => ?_⟩
  · obtain ⟨b, e, rfl⟩ := hb.get i v (by simpa using hP)
    simp only [e, Option.getD_some] at hQ
    exact wpAny_truthy_bool hQ
  · have e : ((List.range its.toArray.size).all fun i => (bs[i]?).getD true) = bs.all id := by
      rw [List.size_toArray, hb.length]; exact LSm.range_all bs
    rw [e]
    exact ⟨.bl _, H, I.kept (LSm.kept_iter hk), rfl, q⟩
theorem call_isi : CallR X (.builtin "isinstance") (fun xs H Q => ∃ x n t b, xs = [x, .ty n] ∧ TyOf X.K H x t ∧ PySem.W.kitOne X.K t (.type n) = some b ∧ Q (.bl b) H) := by
  intro pins s σ H xs us Q I r h
  obtain ⟨x, n, t, b, rfl, ty, e, q⟩ := h
  obtain ⟨u, w', rfl, rx, ry⟩ := vals2 r
  have ry' : w' = Value.type n := ry
  subst ry'
  exact isinst_ok I rx ty e fun tk => ⟨.bl b, H, I.tok tk, rfl, q⟩
mutual
inductive Dp (K : PySem.W.Frag) (H : Hp) : V → PyData → Prop
  | non : Dp K H .non .none
  | bl (b : Bool) : Dp K H (.bl b) (.bool b)
  | int (i : Int) : Dp K H (.int i) (.int i)
  | str (x : Str) : Dp K H (.str x) (.str x)
  | lst {a : Addr} {xs : List V} {ds : List PyData} : SqL K H a xs → DpA K H xs ds → Dp K H (.ref a) (.list ds)
  | tup {a : Addr} {xs : List V} {ds : List PyData} : SqT K H a xs → DpA K H xs ds → Dp K H (.ref a) (.tuple ds)
inductive DpA (K : PySem.W.Frag) (H : Hp) : List V → List PyData → Prop
  | nil : DpA K H [] []
  | cons {x : V} {xs : List V} {d : PyData} {ds : List PyData} : Dp K H x d → DpA K H xs ds → DpA K H (x :: xs) (d :: ds)
end
mutual
theorem Dp.reads {pins : List (Addr × Obj)} {σ : St} {H : Hp} {s : Shared} (I : Inv X pins σ H s) : ∀ {x : V} {d : PyData} {u : Value}, Dp X.K H x d → RelV x u → ∃ as, Reads s.heap u d as
  | _, _, _, .non, r => by cases (show _ = Value.none from r); exact ⟨_, .none⟩
  | _, _, _, .bl b, r => by cases (show _ = Value.bool b from r); exact ⟨_, .bool b⟩
  | _, _, _, .int i, r => by obtain ⟨t, rfl⟩ := (show ∃ t, _ = Value.int i t from r); exact ⟨_, .int i t⟩
  | _, _, _, .str x, r => by obtain ⟨t, rfl⟩ := (show ∃ t, _ = Value.str x t from r); exact ⟨_, .str x t⟩
  | _, _, _, .lst (a := a) hq h, r => by
    cases (show _ = Value.ref a from r)
    obtain ⟨its, rv, pl, _⟩ := I.list hq
    obtain ⟨as, q⟩ := DpA.reads I h rv
    obtain ⟨o, ho, hc, n, hd⟩ := pl.isList
    exact ⟨_, .list ho hc hd (by simpa using q)⟩
  | _, _, _, .tup (a := a) hq h, r => by
    cases (show _ = Value.ref a from r)
    obtain ⟨its, rv, pl, _⟩ := I.tuple hq
    obtain ⟨as, q⟩ := DpA.reads I h rv
    obtain ⟨o, ho, hc, n, hd⟩ := pl
    exact ⟨_, .tuple ho hc hd (by simpa using q)⟩
theorem DpA.reads {pins : List (Addr × Obj)} {σ : St} {H : Hp} {s : Shared} (I : Inv X pins σ H s) : ∀ {xs : List V} {ds : List PyData} {us : List Value}, DpA X.K H xs ds → Vals xs us → ∃ as, ReadsAll s.heap us ds as
  | _, _, _, .nil, r => by cases r; exact ⟨_, .nil⟩
  | _, _, _, .cons h1 h2, r => by
    cases r with
    | cons r1 r2 =>
      obtain ⟨as, q1⟩ := Dp.reads I h1 r1
      obtain ⟨bs, q2⟩ := DpA.reads I h2 r2
      exact ⟨_, .cons q1 q2⟩
end
noncomputable def rNeD (K : PySem.W.Frag) : R2 := fun x y H Q => ∃ d e, Dp K H x d ∧ Dp K H y e ∧ SeqAt.shaped d = true ∧ SeqAt.shaped e = true ∧ Q (.bl (!PyData.eqv d e)) H
theorem op_neD (hu : X.A.units + 64 < cLine) : OpR X (compareOp .NotEq) (rNeD X.K) := by
  intro pins s σ H x y v u Q I rx ry h
  obtain ⟨d, e, hd, he, sd, se, q⟩ := h
  obtain ⟨as, ra⟩ := hd.reads I rx
  obtain ⟨bs, rb⟩ := he.reads I ry
  exact ne_dataH ra rb sd se hu ⟨.bl _, H, I, rfl, q⟩
end
end L2
namespace L2
open PySem PySem.Spec PyProof.Rows
section
variable {X : Cx} {a b c : Expr} {ta tb tc : TE} {pos : Pos}
noncomputable def tV (i : Nat) : TE := fun σ H Q => match σ[i]? with
  | some (some v) => Q v H
  | _ => False
theorem pV (i : Nat) {x : Str} {pos : Pos} (hN : X.N[i]? = some x := by rfl) (hv : Vis X.env.scope x := by first | exact Or.inl rfl | exact Or.inr (Or.inl rfl) | exact Or.inr (Or.inr rfl)) (hd : (x == ("__debug__" : Str)) = false := by decide)
    (hcd : (x == ("__classdict__" : Str)) = false := by decide) : PE X (.Name x pos) (tV i) := by
  intro pins s σ H Q I h
  refine pe_var hN hv hd hcd pins s σ H Q I ?_
  unfold tV at h
  cases e : σ[i]? with
  | none => rw [e] at h; exact h.elim
  | some o =>
    rw [e] at h
    cases o with
    | none => exact h.elim
    | some v => exact ⟨v, e, h⟩
noncomputable def fI (g : Int → Int → V) : R2 := fun x y H Q => match x, y with
  | .int i, .int j => Q (g i j) H
  | _, _ => False
noncomputable def fIc (C : Int → Int → Prop) (g : Int → Int → V) : R2 := fun x y H Q => match x, y with
  | .int i, .int j => C i j ∧ Q (g i j) H
  | _, _ => False
theorem OpR.fI {f : Value → Value → Sem Value} {g : Int → Int → V} (h : OpR X f (rI0 g)) : OpR X f (fI g) := by
  intro pins s σ H x y v u Q I rx ry q
  refine h pins s σ H x y v u Q I rx ry ?_
  cases x <;> cases y <;> first | exact ⟨_, _, rfl, rfl, q⟩ | exact (show False from q).elim
theorem OpR.fIc {f : Value → Value → Sem Value} {C : Int → Int → Prop} {g : Int → Int → V} (h : OpR X f (rI C g)) : OpR X f (fIc C g) := by
  intro pins s σ H x y v u Q I rx ry q
  refine h pins s σ H x y v u Q I rx ry ?_
  cases x <;> cases y <;> first | exact ⟨_, _, rfl, rfl, q.1, q.2⟩ | exact (show False from q).elim
theorem oAdd : OpR X (binaryOp .Add) (fI fun i j => .int (i + j)) := op_add.fI
theorem oSub : OpR X (binaryOp .Sub) (fI fun i j => .int (i - j)) := op_sub.fI
theorem oMul : OpR X (binaryOp .Mult) (fIc CMul fun i j => .int (i * j)) := op_mul.fIc
theorem oMod : OpR X (binaryOp .Mod) (fIc (fun _ j => 0 < j) fun i j => .int (i % j)) := op_mod.fIc
noncomputable def CDivL (_ j : Int) : Prop := 0 < j ∧ j < 4611686018427387904
theorem op_fdivL : OpR X (binaryOp .FloorDiv) (rI CDivL fun i j => .int (i / j)) := opI fun i j _ _ _ _ _ hc q => by
  have h1 : (0 : Int) < j := hc.1
  have h2 : j < 4611686018427387904 := hc.2
  refine floordiv_int (by omega) (by rw [Int.fdiv_eq_ediv_of_nonneg i (by omega)]; exact q) (.inl (PyProof.noPylong_of_log2 ?_))
  have h3 : j.natAbs ≠ 0 := by omega
  have h4 : j.natAbs < 2 ^ 62 := by omega
  have := (Nat.log2_lt h3).mpr h4
  omega
theorem oDiv : OpR X (binaryOp .FloorDiv) (fIc CDivL fun i j => .int (i / j)) := op_fdivL.fIc
theorem oPow : OpR X (binaryOp .Pow) (fIc CPow fun i j => .int (i ^ j.toNat)) := op_pow.fIc
theorem oLt : OpR X (compareOp .Lt) (fI fun i j => .bl (decide (i < j))) := op_lt.fI
theorem oLe : OpR X (compareOp .LtE) (fI fun i j => .bl (decide (i ≤ j))) := op_le.fI
theorem oGt : OpR X (compareOp .Gt) (fI fun i j => .bl (decide (j < i))) := op_gt.fI
theorem oGe : OpR X (compareOp .GtE) (fI fun i j => .bl (decide (j ≤ i))) := op_ge.fI
theorem op_eqI : OpR X (compareOp .Eq) (rI0 fun i j => .bl (decide (i = j))) := opB0 fun _ _ _ _ _ _ _ q => eq_int (by rw [Bool.beq_eq_decide_eq]; exact q)
theorem oEq : OpR X (compareOp .Eq) (fI fun i j => .bl (decide (i = j))) := op_eqI.fI
theorem uNeg : UnR X (unaryOp .USub) (fun x H Q => match x with | .int i => Q (.int (-i)) H | _ => False) := by
  intro pins s σ H x v Q I rx h
  cases x with
  | int i => obtain ⟨t, rfl⟩ := rx; exact neg_int ⟨.int (-i), H, I.tok _, ⟨_, rfl⟩, h⟩
  | _ => exact (show False from h).elim
noncomputable def fS (g : Str → Str → V) : R2 := fun x y H Q => match x, y with
  | .str i, .str j => Q (g i j) H
  | _, _ => False
theorem oLeS : OpR X (compareOp .LtE) (fS fun i j => .bl (!decide (j.cps.toList < i.cps.toList))) := by
  intro pins s σ H x y v u Q I rx ry q
  refine op_le_str pins s σ H x y v u Q I rx ry ?_
  cases x <;> cases y <;> first | exact ⟨_, _, rfl, rfl, q⟩ | exact (show False from q).elim
noncomputable def fCat : R2 := fun x y H Q => match x, y with
  | .str i, .str j => i.length + j.length ≤ sizeLine ∧ Q (.str (i ++ j)) H
  | _, _ => False
theorem oCat : OpR X (binaryOp .Add) fCat := by
  intro pins s σ H x y v u Q I rx ry q
  refine op_add_str pins s σ H x y v u Q I rx ry ?_
  cases x <;> cases y <;> first | exact ⟨_, _, rfl, rfl, q.1, q.2⟩ | exact (show False from q).elim
noncomputable def bF (Q : Bool → Hp → Prop) : VK := fun x H => match x with
  | .bl k => Q k H
  | _ => False
noncomputable def tF (t : TE) : TT := fun σ H Q => t σ H (bF Q)
theorem tFq {Q : Bool → Hp → Prop} {x : V} {H : Hp} (h : bF Q x H) : ∃ k, x = .bl k ∧ Q k H := by
  cases x with
  | bl k => exact ⟨k, rfl, h⟩
  | _ => exact (show False from h).elim
theorem ptC {op : CmpOp} {r : R2} (ho : OpR X (compareOp op) r) (ha : PE X a ta) (hb : PE X b tb) (hm : behindInMarks op b = false) : PT X (.Compare a [op] [b] pos) (tF (tOp r ta tb)) := by
  intro pins s σ H Q I h
  refine wpAny_isTrue_Compare1 (thn (ha pins s σ H _ I h) fun v s1 ⟨x, H1, I1, r1, q1⟩ => thn (hb pins s1 σ H1 _ I1 q1) fun u s2 ⟨y, H2, I2, r2, q2⟩ =>
    thn (ho pins s2 σ H2 x y v u _ I2 r1 r2 q2) fun c s3 ⟨z, H3, I3, r3, q3⟩ => ?_) hm
  obtain ⟨k, e, q⟩ := tFq q3
  subst e
  cases r3
  exact wpAny_truthy_bool ⟨H3, I3, q⟩
theorem ptV {e : Expr} {t : TE} (h : PE X e t) (he : ∀ whole, isTrue e X.env whole = (do let v ← whole; standAt e.pos; holding [v] (truthy v)) := by intro _; rfl) : PT X e (tF t) := by
  intro pins s σ H Q I hw
  refine isTrue_plain (thn (h pins s σ H _ I hw) fun v s1 ⟨x, H1, I1, r1, q1⟩ => ?_) (he _)
  obtain ⟨d, rfl, q⟩ := tFq q1
  cases r1
  exact wpAny_truthy_bool ⟨H1, I1, q⟩
noncomputable def tChF (r r' : R2) (ta tb tc : TE) : TE := fun σ H Q => ta σ H fun x H1 => tb σ H1 fun y H2 => r x y H2 (bF fun k H3 => if k = true then tc σ H3 fun w' H4 => r' y w' H4 Q else Q (.bl false) H3)
theorem peCh {op op' : CmpOp} {r r' : R2} (ho : OpR X (compareOp op) r) (ho' : OpR X (compareOp op') r') (ha : PE X a ta) (hb : PE X b tb) (hc : PE X c tc)
    (hm : lastMarks [op, op'] [b, c] = false := by with_unfolding_all rfl) : PE X (.Compare a [op, op'] [b, c] pos) (tChF r r' ta tb tc) := by
  intro pins s σ H Q I h
  refine Compare_chain (thn (ha pins s σ H _ I h) fun v s1 ⟨x, H1, I1, r1, q1⟩ => chain_link (thn (hb pins s1 σ H1 _ I1 q1) fun u s2 ⟨y, H2, I2, r2, q2⟩ =>
    thn (ho pins s2 σ H2 x y v u _ I2 r1 r2 q2) fun d s3 ⟨z, H3, I3, r3, q3⟩ => ?_)) hm
  obtain ⟨k, e, q3⟩ := tFq q3
  subst e
  cases r3
  refine wpAny_truthy_bool ?_
  cases k with
  | false => exact ite_ff ⟨.bl false, H3, I3, rfl, q3⟩
  | true => exact ite_tt (chain_last (thn (hc pins s3 σ H3 _ I3 q3) fun w' s4 ⟨z', H4, I4, r4, q4⟩ => ho' pins s4 σ H4 y z' u w' Q I4 r2 r4 q4))
theorem ptCh {op op' : CmpOp} {r r' : R2} (ho : OpR X (compareOp op) r) (ho' : OpR X (compareOp op') r') (ha : PE X a ta) (hb : PE X b tb) (hc : PE X c tc)
    (hm : lastMarks [op, op'] [b, c] = false := by with_unfolding_all rfl) : PT X (.Compare a [op, op'] [b, c] pos) (tF (tChF r r' ta tb tc)) := by
  intro pins s σ H Q I h
  refine isTrue_chain (thn (ha pins s σ H _ I h) fun v s1 ⟨x, H1, I1, r1, q1⟩ => test_link (thn (hb pins s1 σ H1 _ I1 q1) fun u s2 ⟨y, H2, I2, r2, q2⟩ =>
    thn (ho pins s2 σ H2 x y v u _ I2 r1 r2 q2) fun d s3 ⟨z, H3, I3, r3, q3⟩ => ?_)) hm
  obtain ⟨k, e, q3⟩ := tFq q3
  subst e
  cases r3
  refine wpAny_truthy_bool ?_
  cases k with
  | false => exact ite_ff ⟨H3, I3, q3⟩
  | true =>
    refine ite_tt (test_last (thn (hc pins s3 σ H3 _ I3 q3) fun w' s4 ⟨z', H4, I4, r4, q4⟩ => thn (ho' pins s4 σ H4 y z' u w' _ I4 r2 r4 q4) fun d' s5 ⟨z2, H5, I5, r5, q5⟩ => ?_))
    obtain ⟨k2, e2, q5⟩ := tFq q5
    subst e2
    cases r5
    exact wpAny_truthy_bool ⟨H5, I5, q5⟩
variable {rest : List Expr}
noncomputable def tAndF (ta tb : TE) : TE := fun σ H Q => ta σ H (bF fun c H1 => if c = true then tb σ H1 Q else Q (.bl false) H1)
noncomputable def tOrF (ta tb : TE) : TE := fun σ H Q => ta σ H (bF fun c H1 => if c = true then Q (.bl true) H1 else tb σ H1 Q)
noncomputable def tNotF (ta : TE) : TE := fun σ H Q => ta σ H (bF fun c H1 => Q (.bl (!c)) H1)
theorem peAnd (ha : PE X a ta) (hb : PE X (.BoolOp .And (b :: rest) pos) tb) : PE X (.BoolOp .And (a :: b :: rest) pos) (tAndF ta tb) := by
  intro pins s σ H Q I h
  refine BoolOp_and (thn (ha pins s σ H _ I h) fun v s1 ⟨x, H1, I1, r1, q1⟩ => ?_)
  obtain ⟨c, rfl, q1⟩ := tFq q1
  cases r1
  refine wpAny_truthy_bool ?_
  cases c with
  | true => exact hb pins s1 σ H1 Q I1 q1
  | false => exact ⟨.bl false, H1, I1, rfl, q1⟩
theorem peOr (ha : PE X a ta) (hb : PE X (.BoolOp .Or (b :: rest) pos) tb) : PE X (.BoolOp .Or (a :: b :: rest) pos) (tOrF ta tb) := by
  intro pins s σ H Q I h
  refine BoolOp_or (thn (ha pins s σ H _ I h) fun v s1 ⟨x, H1, I1, r1, q1⟩ => ?_)
  obtain ⟨c, rfl, q1⟩ := tFq q1
  cases r1
  refine wpAny_truthy_bool ?_
  cases c with
  | false => exact hb pins s1 σ H1 Q I1 q1
  | true => exact ⟨.bl true, H1, I1, rfl, q1⟩
theorem peNot (ha : PE X a ta) : PE X (.UnaryOp .Not a pos) (tNotF ta) := by
  intro pins s σ H Q I h
  refine UnaryOp_ (thn (ha pins s σ H _ I h) fun v s1 ⟨x, H1, I1, r1, q1⟩ => ?_)
  obtain ⟨c, rfl, q1⟩ := tFq q1
  cases r1
  exact not_of (wpAny_truthy_bool ⟨.bl (!c), H1, I1, rfl, q1⟩)
end
end L2
namespace L2
open PySem PySem.Spec PyProof.Rows
noncomputable def Nx (n i : Nat) (Pv : Nat → Hp → Prop) (H : Hp) : Prop := ∃ m', m' < n - i ∧ (m' = n - (i + 1) ∧ i + 1 ≤ n ∧ Pv (i + 1) H)
theorem nx {n i : Nat} {Pv : Nat → Hp → Prop} {H : Hp} (hi : i < n) (h : Pv (i + 1) H) : Nx n i Pv H := ⟨n - (i + 1), by omega, rfl, hi, h⟩
section
variable {g : BI → TG} {tt : BI → TT} {te : BI → TE} {σ0 : St} {D : Addr} {End : Hp → Prop} {H1 : Hp}
theorem comp_by {J : It} (n : Nat) (Pv : Nat → Hp → Prop) (h0 : Pv 0 (upd H1 D (.lst []))) (stop : ∀ H, Pv n H → J.stop n H ∧ End H)
    (turn : ∀ i H, i < n → Pv i H → J.go i H ∧ ∀ x H', J.yld i H x H' → ∀ b, g b x σ0 H' fun σ2 H2 => tt b σ2 H2 fun c H3 => if c = true then aPut D (te b) σ2 H3 (Nx n i Pv) else Nx n i Pv H3) :
    ∃ W : Nat → Nat → Hp → Prop, (∃ m, W 0 m (upd H1 D (.lst []))) ∧ ∀ b, CTurn J (g b) (tt b) (aPut D (te b)) σ0 End W := by
  refine ⟨fun i m H => m = n - i ∧ i ≤ n ∧ Pv i H, ⟨n, rfl, Nat.zero_le _, h0⟩, fun b i m H ⟨hm, hi, p⟩ => ?_⟩
  subst hm
  by_cases hlt : i < n
  · exact .inr ⟨(turn i H hlt p).1, fun x H' y => (turn i H hlt p).2 x H' y b⟩
  · have e : i = n := by omega
    subst e
    exact .inl (stop H p)
theorem comp_str {z : Str} (Pv : Nat → Hp → Prop) (h0 : Pv 0 (upd H1 D (.lst []))) (stop : ∀ H, Pv z.cps.size H → End H)
    (turn : ∀ i c H, z.cps[i]? = some c → i < z.cps.size → Pv i H → ∀ b, g b (.str ⟨#[c]⟩) σ0 H fun σ2 H2 => tt b σ2 H2 fun c H3 => if c = true then aPut D (te b) σ2 H3 (Nx z.cps.size i Pv) else Nx z.cps.size i Pv H3) :
    ∃ W : Nat → Nat → Hp → Prop, (∃ m, W 0 m (upd H1 D (.lst []))) ∧ ∀ b, CTurn (Its z) (g b) (tt b) (aPut D (te b)) σ0 End W :=
  comp_by z.cps.size Pv h0 (fun H p => ⟨Nat.le_refl _, stop H p⟩) fun i H hi p => ⟨hi, fun x H' ⟨e, c, hc, hx⟩ b => by subst e hx; exact turn i c _ hc hi p b⟩
theorem comp_list {K : PySem.W.Frag} {a : Addr} {xs : List V} (Pv : Nat → Hp → Prop) (h0 : Pv 0 (upd H1 D (.lst []))) (hl : ∀ i H, i ≤ xs.length → Pv i H → SqL K H a xs) (stop : ∀ H, Pv xs.length H → End H)
    (turn : ∀ i x H, xs[i]? = some x → i < xs.length → Pv i H → ∀ b, g b x σ0 H fun σ2 H2 => tt b σ2 H2 fun c H3 => if c = true then aPut D (te b) σ2 H3 (Nx xs.length i Pv) else Nx xs.length i Pv H3) :
    ∃ W : Nat → Nat → Hp → Prop, (∃ m, W 0 m (upd H1 D (.lst []))) ∧ ∀ b, CTurn (Itl K a) (g b) (tt b) (aPut D (te b)) σ0 End W :=
  comp_by xs.length Pv h0 (fun H p => ⟨⟨xs, hl _ H (Nat.le_refl _) p, Nat.le_refl _⟩, stop H p⟩) fun i H hi p =>
    ⟨⟨xs, xs[i], hl i H (Nat.le_of_lt hi) p, by simp [hi]⟩, fun x H' ⟨e, y⟩ b => by subst e; exact turn i x _ (y xs (hl i _ (Nat.le_of_lt hi) p)) hi p b⟩
theorem comp_tup {K : PySem.W.Frag} {a : Addr} {xs : List V} (Pv : Nat → Hp → Prop) (h0 : Pv 0 (upd H1 D (.lst []))) (hl : ∀ i H, i ≤ xs.length → Pv i H → SqT K H a xs) (stop : ∀ H, Pv xs.length H → End H)
    (turn : ∀ i x H, xs[i]? = some x → i < xs.length → Pv i H → ∀ b, g b x σ0 H fun σ2 H2 => tt b σ2 H2 fun c H3 => if c = true then aPut D (te b) σ2 H3 (Nx xs.length i Pv) else Nx xs.length i Pv H3) :
    ∃ W : Nat → Nat → Hp → Prop, (∃ m, W 0 m (upd H1 D (.lst []))) ∧ ∀ b, CTurn (Itt K a) (g b) (tt b) (aPut D (te b)) σ0 End W :=
  comp_by xs.length Pv h0 (fun H p => ⟨⟨xs, hl _ H (Nat.le_refl _) p, Nat.le_refl _⟩, stop H p⟩) fun i H hi p =>
    ⟨⟨xs, xs[i], hl i H (Nat.le_of_lt hi) p, by simp [hi]⟩, fun x H' ⟨e, y⟩ b => by subst e; exact turn i x _ (y xs (hl i _ (Nat.le_of_lt hi) p)) hi p b⟩
theorem comp_range {lo : Int} {n : Nat} (Pv : Nat → Hp → Prop) (h0 : Pv 0 (upd H1 D (.lst []))) (stop : ∀ H, Pv n H → End H)
    (turn : ∀ i H, i < n → Pv i H → ∀ b, g b (.int (lo + i)) σ0 H fun σ2 H2 => tt b σ2 H2 fun c H3 => if c = true then aPut D (te b) σ2 H3 (Nx n i Pv) else Nx n i Pv H3) :
    ∃ W : Nat → Nat → Hp → Prop, (∃ m, W 0 m (upd H1 D (.lst []))) ∧ ∀ b, CTurn (Itr lo n) (g b) (tt b) (aPut D (te b)) σ0 End W :=
  comp_by n Pv h0 (fun H p => ⟨Nat.le_refl _, stop H p⟩) fun i H hi p => ⟨hi, fun x H' ⟨e, hx⟩ b => by subst e hx; exact turn i _ hi p b⟩
end
structure Grow (H1 H : Hp) (D : Addr) (ys : List V) : Prop where
  at' : H D = some (.lst ys)
  same : Same H1 H
theorem Grow.start {H1 : Hp} {D : Addr} (h : H1 D = none) : Grow H1 (upd H1 D (.lst [])) D [] := ⟨upd_same, fun b o e => by rw [upd_ne (ne_of_none e h)]; exact e⟩
theorem Grow.put {H1 H : Hp} {D : Addr} {ys : List V} (h : H1 D = none) (G : Grow H1 H D ys) (y : V) : Grow H1 (upd H D (.lst (ys ++ [y]))) D (ys ++ [y]) := ⟨upd_same, fun b o e => by rw [upd_ne (ne_of_none e h)]; exact G.same b o e⟩
theorem Same.upd {H H1 : Hp} {p : Addr} {o : HO} (s : Same H H1) (h : H1 p = none) : Same H (upd H1 p o) := fun b u e => by rw [upd_ne (ne_of_none (s b u e) h)]; exact s b u e
theorem Same.tup {K : PySem.W.Frag} {H H' : Hp} {a : Addr} {xs : List V} (e : Same H H') (h : SqT K H a xs) : SqT K H' a xs := by
  rcases h with (h | ⟨o, h⟩) | h
  · exact .inl (.inl (e _ _ h))
  · exact .inl (.inr ⟨o, e _ _ h⟩)
  · exact .inr h
noncomputable def sub8 (T n : String) : Bool := T == n || (T == "bool" && n == "int")
theorem kit8 {K : PySem.W.Frag} {H : Hp} {x : V} {T : String} (h : TyOf K H x (.type T)) : PySem.W.kitOne K (.type T) (.type "int") = some (sub8 T "int") ∧ PySem.W.kitOne K (.type T) (.type "bool") = some (sub8 T "bool") ∧ PySem.W.kitOne K (.type T) (.type "str") = some (sub8 T "str") ∧ PySem.W.kitOne K (.type T) (.type "tuple") = some (sub8 T "tuple") := by
  cases h <;> exact ⟨rfl, rfl, rfl, rfl⟩
end L2
namespace L2
open PySem PySem.Spec PyProof.Rows
section
variable {X : Cx} {a b : Expr} {tA tB' : TT} {rest : List Expr} {pos : Pos}
theorem ptOr (ha : PT X a tA) (hb : PW X (.BoolOp .Or (b :: rest) pos) tB') : PT X (.BoolOp .Or (a :: b :: rest) pos) (tOr tA tB') := (pw_or ha hb).pt
theorem ptAnd (ha : PT X a tA) (hb : PW X (.BoolOp .And (b :: rest) pos) tB') : PT X (.BoolOp .And (a :: b :: rest) pos) (tAnd tA tB') := (pw_and ha hb).pt
end
theorem lt1 {a b : Nat} : ([a] < [b]) ↔ a < b := by simp [List.cons_lt_cons_iff]
end L2
namespace L2
open PySem PySem.Spec PyProof.Rows
theorem take_map {α β : Type} {f : α → β} {l : List α} {i : Nat} {c : α} (h : l[i]? = some c) : (l.take (i + 1)).map f = (l.take i).map f ++ [f c] := by
  rw [List.take_add_one, h, List.map_append]; rfl
theorem take_all {α β : Type} {f : α → β} {l : List α} {n : Nat} (h : l.length ≤ n) : (l.take n).map f = l.map f := by rw [List.take_of_length_le h]
theorem len_take {α β : Type} {f : α → β} {l : List α} {i m : Nat} (h : i < m) (hm : m ≤ sizeLine) : ((l.take i).map f).length < sizeLine := by
  rw [List.length_map, List.length_take]; omega
theorem cps_get {z : Str} {i c : Nat} (h : z.cps[i]? = some c) : z.cps.toList[i]? = some c := by simpa using h
end L2
namespace L2
open PySem PySem.Spec PyProof.Rows
noncomputable def SameB (p : Addr) (H H' : Hp) : Prop := ∀ b o, b ≠ p → H b = some o → H' b = some o
theorem SameB.of {p : Addr} {H H' : Hp} (s : Same H H') : SameB p H H' := fun b o _ e => s b o e
theorem SameB.trans {p : Addr} {H H1 H2 : Hp} (a : SameB p H H1) (b : SameB p H1 H2) : SameB p H H2 := fun c o n e => b c o n (a c o n e)
theorem SameB.upd {p : Addr} {H H1 : Hp} {o : HO} (a : SameB p H H1) : SameB p H (upd H1 p o) := fun c u n e => by rw [upd_ne n]; exact a c u n e
theorem SameB.new {p q : Addr} {H H1 : Hp} {o : HO} (a : SameB p H H1) (h : H1 q = none) : SameB p H (L2.upd H1 q o) := fun c u n e => by rw [upd_ne (ne_of_none (a c u n e) h)]; exact a c u n e
structure IxA (K : PySem.W.Frag) (x y : V) (H : Hp) (Q : VK) : Prop where
  h : rIxL K x y H Q
theorem iIx {X : Cx} : IxR X (IxA X.K) := fun a b pins s σ H x y v u Q I rx ry h hs => ix_list a b pins s σ H x y v u Q I rx ry h.h hs
theorem ixAt {K : PySem.W.Frag} {H : Hp} {p : Addr} {xs : List V} {i : Int} {v : V} {Q : VK} (h : H p = some (.lst xs)) (e : atI xs i = some v) (q : Q v H) : IxA K (.ref p) (.int i) H Q := ⟨p, xs, i, v, rfl, rfl, SqL.of h, e, q⟩
theorem ixAtS {K : PySem.W.Frag} {H : Hp} {p : Addr} {xs : List V} {i : Int} {v : V} {Q : VK} (h : SqL K H p xs) (e : atI xs i = some v) (q : Q v H) : IxA K (.ref p) (.int i) H Q := ⟨p, xs, i, v, rfl, rfl, h, e, q⟩
structure IxT (K : PySem.W.Frag) (x y : V) (H : Hp) (Q : VK) : Prop where
  h : rIxT K x y H Q
theorem iIxT {X : Cx} : IxR X (IxT X.K) := fun a b pins s σ H x y v u Q I rx ry h hs => ix_tup a b pins s σ H x y v u Q I rx ry h.h hs
theorem ixTup {K : PySem.W.Frag} {H : Hp} {p : Addr} {xs : List V} {i : Int} {v : V} {Q : VK} (h : SqT K H p xs) (e : atI xs i = some v) (q : Q v H) : IxT K (.ref p) (.int i) H Q := ⟨p, xs, i, v, rfl, rfl, h, e, q⟩
structure IxS (x y : V) (H : Hp) (Q : VK) : Prop where
  h : rIxS x y H Q
theorem iIxS {X : Cx} : IxR X IxS := fun a b pins s σ H x y v u Q I rx ry h hs => ix_str a b pins s σ H x y v u Q I rx ry h.h hs
theorem ixStr {H : Hp} {z : Str} {i : Int} {c : Nat} {Q : VK} (hz : z.length ≤ sizeLine) (e : atI z.cps.toList i = some c) (q : Q (.str ⟨#[c]⟩) H) : IxS (.str z) (.int i) H Q := ⟨z, i, c, rfl, rfl, hz, e, q⟩
structure SetA (o i v : V) (H : Hp) (Q : Hp → Prop) : Prop where
  h : rSetL o i v H Q
theorem iSet {X : Cx} : PSet X SetA := fun pins s σ H o i v ov iv u Q I ro ri rv h => set_list pins s σ H o i v ov iv u Q I ro ri rv h.h
theorem setAt {H : Hp} {p : Addr} {xs : List V} {i : Int} {j : Nat} {v : V} {Q : Hp → Prop} (h : H p = some (.lst xs)) (e : ixN xs.length i = some j) (q : Q (upd H p (.lst (xs.set j v)))) : SetA (.ref p) (.int i) v H Q := ⟨p, xs, i, j, rfl, rfl, h, e, q⟩
end L2
namespace L2
open PySem PySem.Spec PyProof.Rows
noncomputable def cutS (z : Str) (lo hi : Option Int) : Str := ⟨((z.cps.toList.drop (HT.sIx z.length 0 lo)).take (HT.sIx z.length z.length hi - HT.sIx z.length 0 lo)).toArray⟩
theorem ssi_eq (lo hi : Option Int) (n : Nat) : Builtin.Str.strSliceIndices lo hi 1 n = (List.range (HT.sIx n n hi - HT.sIx n 0 lo)).map (HT.sIx n 0 lo + ·) := by
  have a : ∀ (v : Option Int) (d : Nat), d ≤ n → (match v with | none => (d : Int) | some i => (let i := if i < 0 then i + (n : Int) else i; max 0 (min i (n : Int)))) = ((HT.sIx n d v : Nat) : Int) := fun v d hd => by
    cases v with
    | none => rfl
    | some i =>
      show max 0 (min (if i < 0 then i + (n : Int) else i) (n : Int)) = ((if i < 0 then (i + (n : Int)).toNat else min i.toNat n : Nat) : Int)
      by_cases h : i < 0
      · rw [if_pos h, if_pos h]; omega
      · rw [if_neg h, if_neg h]; omega
  rw [← sliceRange_one]
  unfold Builtin.Str.strSliceIndices
  have h1 := a lo 0 (Nat.zero_le _)
  have h2 := a hi n (Nat.le_refl _)
  simp only [show (1 : Int) > 0 by decide, if_true] at h1 h2 ⊢
  rw [← h1, ← h2]
  rfl
theorem slice_eq (z : Str) (lo hi : Option Int) : Txt.slice z lo hi = cutS z lo hi := by
  unfold Txt.slice cutS
  rw [ssi_eq, pick_run]
  split
  · rename_i h
    have e : HT.sIx z.length z.length hi - HT.sIx z.length 0 lo = z.length := by simpa using h
    have b : HT.sIx z.length z.length hi ≤ z.length := by
      unfold HT.sIx
      cases hi with
      | none => exact Nat.le_refl _
      | some v => simp only; split <;> omega
    by_cases h0 : z.length = 0
    · have e0 : z.cps.toList = [] := by
        apply List.eq_nil_of_length_eq_zero
        simpa [Str.length] using h0
      cases z with
      | mk cps =>
        have e1 : cps = #[] := by simpa using e0
        subst e1
        simp
    · have e1 : HT.sIx z.length 0 lo = 0 := by omega
      rw [e1, Nat.sub_zero, show HT.sIx z.length z.length hi = z.length by omega, List.drop_zero, List.take_of_length_le (by simp [Str.length])]
  · rfl
theorem slice_to (z : Str) (k : Nat) : Txt.slice z none (some (k : Int)) = ⟨(z.cps.toList.take k).toArray⟩ := by
  rw [slice_eq]
  unfold cutS
  rw [HT.sIx_none, HT.sIx_nat, List.drop_zero, Nat.sub_zero]
  congr 2
  rw [List.take_eq_take_iff]
  simp [Str.length]
  try omega
theorem slice_mid (z : Str) (i k : Nat) : Txt.slice z (some (i : Int)) (some (k : Int)) = ⟨((z.cps.toList.take k).drop i).toArray⟩ := by
  rw [slice_eq]
  unfold cutS
  rw [HT.sIx_nat, HT.sIx_nat, List.drop_take]
  have el : z.cps.toList.length = z.length := by simp [Str.length]
  congr 1
  by_cases h : i ≤ z.length
  · rw [Nat.min_eq_left h]
    congr 1
    rw [List.take_eq_take_iff, List.length_drop, el]
    omega
  · rw [List.drop_of_length_le (show z.cps.toList.length ≤ min i z.length by omega), List.drop_of_length_le (show z.cps.toList.length ≤ i by omega)]
    simp
end L2
namespace L2
open PySem PySem.Spec PyProof.Rows
noncomputable def tPartF (t : TE) : TO := fun σ H Q => t σ H fun x H1 => match x with
  | .int i => Q (some i) H1
  | _ => False
theorem poI {X : Cx} {e : Expr} {te : TE} (h : PE X e te) : PO X (some e) (tPartF te) := by
  intro pins s σ H Q I hw
  rw [evalPart_some]
  refine thn (h pins s σ H _ I hw) fun u s1 ⟨x, H1, I1, r1, q1⟩ => ?_
  cases x with
  | int i => obtain ⟨t, rfl⟩ := r1; exact ⟨some i, H1, I1, .int i t, q1⟩
  | _ => exact (show False from q1).elim
structure SlS (x : V) (lo hi : Option Int) (H : Hp) (Q : VK) : Prop where
  h : ∃ z, x = .str z ∧ z.length ≤ sizeLine ∧ Q (.str (Txt.slice z lo hi)) H
theorem iSlS {X : Cx} : SlR X SlS := fun pins s σ H x v vl vu lo hi sl Q I rx hs pl pu h => sl_str pins s σ H x v vl vu lo hi sl Q I rx hs pl pu h.h
theorem slStr {z : Str} {lo hi : Option Int} {H : Hp} {Q : VK} (hz : z.length ≤ sizeLine) (q : Q (.str (Txt.slice z lo hi)) H) : SlS (.str z) lo hi H Q := ⟨z, rfl, hz, q⟩
theorem app_list (a b : Str) : (a ++ b).cps.toList = a.cps.toList ++ b.cps.toList := by
  show (a.cps ++ b.cps).toList = _
  simp
theorem len_list (a : Str) : a.cps.toList.length = a.length := by simp [Str.length]
end L2
namespace L2
open PySem PySem.Spec PyProof.Rows
noncomputable abbrev TAct := St → Hp → (St → Hp → Prop) → Prop
noncomputable def CT (J : It) (g : TG) (tt : TT) (act : TAct) (End : St → Hp → Prop) (W : Nat → Nat → St → Hp → Prop) : Prop :=
  ∀ i m σ H, W i m σ H → (J.stop i H ∧ End σ H) ∨ (J.go i H ∧ ∀ x H', J.yld i H x H' → g x σ H' fun σ2 H2 => tt σ2 H2 fun b H3 =>
    if b = true then act σ2 H3 fun σ4 H4 => ∃ m', m' < m ∧ W (i + 1) m' σ4 H4 else ∃ m', m' < m ∧ W (i + 1) m' σ2 H3)
noncomputable def PAct (X : Cx) (tail : Sem Unit) (act : TAct) : Prop :=
  ∀ (pins : List (Addr × Obj)) (s : Shared) (σ : St) (H : Hp) (R : St → Hp → Prop), Inv X pins σ H s → act σ H R →
    wpAny (model X.prog X.w) X.A tail (fun _ s' => ∃ σ' H', Inv X pins σ' H' s' ∧ R σ' H') (fun _ _ => False) s
noncomputable def turnC (p : Pos) (tg : Expr) (ifs : List Expr) (env : Env) (it : Value) (tail : Sem Unit) (c : Code) : Sem Fin := do
  standAt p
  match ← pyNext it with
  | none => pure (.done .next)
  | some v =>
    letOwnedTupleGo tg it v
    assign tg env v
    let mut ok := true
    for c in ifs do
      if ok then ok ← isTrue c env (eval c env)
    if ok then tail
    again c
theorem loopG {X : Cx} {e : Expr} {depth : Nat} {acc : Value} {p : Pos} {tg : Expr} {ifs : List Expr} {tail : Sem Unit} {J : It} {fp : List Addr} {it : Addr} {tn : Nat → Heap → Prop} {g : TG} {tt : TT} {act : TAct} {End : St → Hp → Prop} {W : Nat → Nat → St → Hp → Prop} {m0 : Nat}
    {pins : List (Addr × Obj)} {σ : St} {H : Hp} {s : Shared} (hq : (Code.compLoop e depth (.ref it) acc X.env).quiet = true)
    (hden : ∀ (Q : Fin → Shared → Prop) (E : Value → Shared → Prop) (s : Shared), wpAny (model X.prog X.w) X.A (turnC p tg ifs X.env (.ref it) tail (.compLoop e depth (.ref it) acc X.env)) Q (notedBy (model X.prog X.w) X.A X.env E) s →
      wpAny (model X.prog X.w) (X.A.under (.compLoop e depth (.ref it) acc X.env)) ((model X.prog X.w).den (.compLoop e depth (.ref it) acc X.env)) Q E s)
    (hxe : ∀ v s, X.xe v s → False) (hc : X.calm = true) (T : Turn X.prog X.w X.K tg J fp it tn) (hf : ∀ b ∈ fp, FpOk X pins H b) (I : Inv X pins σ H s) (st : tn 0 s.heap) (hg : PG X tg g) (ht : PIf X ifs tt) (ha : PAct X tail act)
    (hW : CT J g tt act End W) (w0 : W 0 m0 σ H) :
    codeAny (model X.prog X.w) X.A (.compLoop e depth (.ref it) acc X.env) (fun r s' => ∃ σ' H', r = .ok .next ∧ Inv X pins σ' H' s' ∧ End σ' H') s := by
  have stat : ∀ {H' : Hp}, (∀ b ∈ fp, H' b = none) → ∀ b ∈ fp, FpOk X pins H' b := fun hn b hb => ⟨hn b hb, (hf b hb).2⟩
  refine codeAny_loop hq (fun n s' => ∃ i σ' H', Inv X pins σ' H' s' ∧ tn i s'.heap ∧ (∀ b ∈ fp, H' b = none) ∧ W i n σ' H') ?_ m0 ⟨0, σ, H, I, st, fun b hb => (hf b hb).1, w0⟩
  rintro n s3 ⟨i, σ3, H3, I3, st3, fr3, w3⟩
  refine hden _ _ _ ?_
  unfold turnC
  rcases hW i n σ3 H3 w3 with ⟨stop, qe⟩ | ⟨go, step⟩
  · refine wpAny_bind (wpAny_standAt (wpAny_bind (thn (T.done X rfl rfl rfl hc i pins s3 _ H3 _ I3 (stat fr3) st3 stop) fun r s5 ⟨hr, I5⟩ => ?_)))
    subst hr
    exact wpAny_pure ⟨σ3, H3, rfl, I5, qe⟩
  · refine wpAny_bind (wpAny_standAt (wpAny_bind (thn (T.item X rfl rfl rfl hc i pins s3 _ H3 _ I3 (stat fr3) st3 go) fun r s5 ⟨u, hr, h5⟩ => ?_)))
    subst hr
    refine wpAny_bind (thn h5 fun _ s6 ⟨x, H6, I6, r6, y6, st6, fr6⟩ => ?_)
    have I6' := I6.pinned (stat fr6) (T.obj _ _ st6)
    refine wpAny_bind (wpAny_mono (hg _ s6 _ H6 x u _ I6' r6 (step x H6 y6)) (fun _ s7 ⟨σ7, H7, I7, q7⟩ => ?_) fun v s' f => (hxe v s' f).elim)
    refine wpAny_bind (wpAny_mono (ht _ s7 σ7 H7 _ I7 q7) (fun ok s8 ⟨H8, I8, q8⟩ => ?_) fun v s' f => (hxe v s' f).elim)
    have again : ∀ {σ9 : St} {H9 : Hp} {s9 : Shared} {m' : Nat}, Inv X (pins ++ pinsAt fp s6.heap) σ9 H9 s9 → m' < n → W (i + 1) m' σ9 H9 →
        ∃ m, m < n ∧ ∃ i σ' H', Inv X pins σ' H' s9 ∧ tn i s9.heap ∧ (∀ b ∈ fp, H' b = none) ∧ W i m σ' H' := fun {σ9 H9 s9 m'} I9 hm w9 => by
      refine ⟨m', hm, i + 1, σ9, H9, I9.unpinned, T.keep _ _ _ st6 fun b hb o e => (I9.pin (b, o) (List.mem_append_right _ (List.mem_append_right _ (mem_pinsAt hb e)))).1, fun b hb => ?_, w9⟩
      obtain ⟨o, e, d⟩ := T.obj _ _ st6 b hb
      exact (I9.pin (b, o) (List.mem_append_right _ (List.mem_append_right _ (mem_pinsAt hb e)))).2.1
    cases ok with
    | false =>
      obtain ⟨m', hm, w9⟩ := q8
      exact wpAny_pure ⟨rfl, again I8 hm w9⟩
    | true =>
      refine wpAny_bind (wpAny_mono (ha _ s8 σ7 H8 _ I8 q8) (fun _ s9 ⟨σ9, H9, I9, m', hm, w9⟩ => ?_) fun _ _ f => f.elim)
      exact wpAny_pure ⟨rfl, again I9 hm w9⟩
noncomputable def aPut2 (D : Addr) (te : TE) : TAct := fun σ H R => te σ H fun y H4 => ∃ zs, H4 D = some (.lst zs) ∧ zs.length < sizeLine ∧ R σ (upd H4 D (.lst (zs ++ [y])))
noncomputable def aIn (wi : TI) (g : TG) (tt : TT) (act : TAct) : TAct := fun σ H R => wi σ H fun J H1 => ∃ W : Nat → Nat → St → Hp → Prop, (∃ m, W 0 m σ H1) ∧ CT J g tt act R W
section
variable {X : Cx} {elt kx vx iter tg : Expr} {te tk tv : TE} {D : Addr} {wi : TI} {g : TG} {tt : TT} {act : TAct} {ifs : List Expr} {scope : Scope} {pos : Pos}
theorem pact_put (hxe : ∀ v s, X.xe v s → False) (he : PE X elt te) : PAct X (do let _ ← call (.builtin "list.append") [.ref D, ← eval elt X.env]) (aPut2 D te) := by
  intro pins s σ H R I h
  refine wpAny_bind (wpAny_mono (he _ s σ H _ I h) (fun y s9 ⟨v, H9, I9, r9, zs, hD, hz, w9⟩ => ?_) fun v s' f => (hxe v s' f).elim)
  refine wpAny_bind (wpAny_mono (mt_append (X := X) _ s9 σ H9 (.ref D) [v] (.ref D) [y] (fun _ H' => R σ H') I9 rfl (.cons r9 .nil) ⟨D, zs, v, rfl, rfl, hD, hz, w9⟩) (fun _ s10 ⟨_, H10, I10, _, q⟩ => ?_) fun v s' f => (hxe v s' f).elim)
  exact wpAny_pure ⟨σ, H10, I10, q⟩
theorem d_dictSet {pins : List (Addr × Obj)} {σ : St} {H H' : Hp} {s : Shared} {a : Addr} {y v : V} {u r : Value} {A : Around} {E : Value → Shared → Prop} {Q : Unit → Shared → Prop} (I : Inv X pins σ H s) {kvs : List (Key × V)} {k : Key} (e : H a = some (.dK kvs)) (ey : y = kV k)
    (l : kvs.length < sizeLine) (eH : H' = upd H a (.dK (putK kvs k v))) (ry : RelV y u) (rv : RelV v r) (h : ∀ s', Inv X pins σ H' s' → Q () s') : wpAny (model X.prog X.w) A (dictSet a u r) Q E s := by
  subst ey eH
  obtain ⟨z, hd, vs, rel, dd⟩ := dk_of I.hok e
  have hz : vs.length ≤ sizeLine := by rw [← rel.length]; exact z
  have hl : (putK kvs k v).length ≤ sizeLine := by have := length_putK kvs k v; omega
  refine wpAny_dictSet_pairs (hsz := hz) (kV_is ry) dd fun h' dd' hs => h _ ?_
  have he : ∃ q, h'.get? a = some q := let ⟨q, _, _, hq, _⟩ := dd'; ⟨q, hq⟩
  exact d_write I (by rw [e]; exact True.intro) hs he (dk_new hl hd (rel.put k rv) dd')
noncomputable def aDictK (D : Addr) (tk tv : TE) : TAct := fun σ H R => tk σ H fun k H1 => tv σ H1 fun v H2 => ∃ kvs kk, H2 D = some (.dK kvs) ∧ k = kV kk ∧ kvs.length < sizeLine ∧ R σ (upd H2 D (.dK (putK kvs kk v)))
theorem pact_dict (hxe : ∀ v s, X.xe v s → False) (hk : PE X kx tk) (hv : PE X vx tv) : PAct X (do
    let kv ← eval kx X.env
    let vv ← holding [kv] (eval vx X.env)
    standAt { kx.pos with endLine := vx.pos.endLine, endCol := vx.pos.endCol }
    holding [kv, vv] (dictSet D kv vv)) (aDictK D tk tv) := by
  intro pins s σ H R I h
  refine wpAny_bind (wpAny_mono (hk _ s σ H _ I h) (fun y s1 ⟨k, H1, I1, r1, q1⟩ => ?_) fun v s' f => (hxe v s' f).elim)
  refine wpAny_bind (wpAny_holding (wpAny_mono (hv _ s1 σ H1 _ I1 q1) (fun z s2 ⟨v, H2, I2, r2, kvs, kk, hD, ek, hl, q⟩ => ?_) fun v s' f => (hxe v s' f).elim))
  refine wpAny_bind (wpAny_standAt (wpAny_holding ?_))
  exact d_dictSet I2 hD ek hl rfl r1 r2 fun s' I' => ⟨σ, _, I', q⟩
end
end L2
namespace L2
open PySem PySem.Spec PyProof.Rows
theorem pact_in {X : Cx} {e : Expr} {acc : Value} {p : Pos} {iter tg : Expr} {ifs : List Expr} {tail : Sem Unit} {wi : TI} {g : TG} {tt : TT} {act : TAct}
    (hq : ∀ it, (Code.compLoop e 1 (.ref it) acc X.env).quiet = true)
    (hden : ∀ (it : Addr) (Q : Fin → Shared → Prop) (E : Value → Shared → Prop) (s : Shared), wpAny (model X.prog X.w) X.A (turnC p tg ifs X.env (.ref it) tail (.compLoop e 1 (.ref it) acc X.env)) Q (notedBy (model X.prog X.w) X.A X.env E) s →
      wpAny (model X.prog X.w) (X.A.under (.compLoop e 1 (.ref it) acc X.env)) ((model X.prog X.w).den (.compLoop e 1 (.ref it) acc X.env)) Q E s)
    (hst : ∀ (it : Addr) (R : Result → Shared → Prop) (s : Shared), codeAny (model X.prog X.w) X.A (.compLoop e 1 (.ref it) acc X.env) R s →
      (∀ Q E, Q (.ref it) s → wpAny (model X.prog X.w) X.A (pyIter (.ref it)) Q E s) → codeAny (model X.prog X.w) X.A (.compStart e 1 (.ref it) acc X.env) R s)
    (hxe : ∀ v s, X.xe v s → False) (hc : X.calm = true) (hi : PI X tg iter wi) (hg : PG X tg g) (ht : PIf X ifs tt) (ha : PAct X tail act) (hs : ∀ x, foldedSetIterable iter X.env x = pure x := by intro _; rfl) :
    PAct X (do
      let x ← eval iter X.env
      standAt iter.pos
      let x ← foldedSetIterable iter X.env x
      let _ ← runOwn (.compStart e 1 (← holding [x] (pyIter x)) acc X.env) X.env) (aIn wi g tt act) := by
  intro pins s σ H R I h
  refine wpAny_bind (wpAny_mono (hi pins s σ H _ I h) (fun v s1 h1 => ?_) fun v s' f => (hxe v s' f).elim)
  refine wpAny_bind (wpAny_standAt (wpAny_bind ?_))
  rw [hs]
  refine wpAny_pure (wpAny_bind (wpAny_holding (wpAny_mono h1 (fun itv s2 h2 => ?_) fun v s' f => (hxe v s' f).elim)))
  obtain ⟨it, fp, tn, J, H2, rfl, I2, T, st2, f2, W, ⟨m0, w0⟩, hW⟩ := h2
  have loop := loopG (p := p) (hq it) (hden it) hxe hc T f2 I2 st2 hg ht ha hW w0
  refine wpAny_bind (wpAny_runOwn (codeAny_mono (hst it _ _ loop fun Q E q => T.self _ 0 _ _ _ st2 q) fun r s' ⟨σ', H', hr, I', q⟩ => ?_))
  subst hr
  exact wpAny_pure ⟨σ', H', I', q⟩
end L2
namespace L2
open PySem PySem.Spec PyProof.Rows
noncomputable def tCompG (own : List Str) (ix : List Nat) (o0 : HO) (wi : TI) (g : BI → TG) (tt : BI → TT) (act : BI → Addr → TAct) : TE := fun σ H Q => wi σ H fun J H1 => ∀ D, H1 D = none →
  ∃ W : Nat → Nat → St → Hp → Prop, (∃ m, W 0 m (stB own ix σ) (upd H1 D o0)) ∧ ∀ b, CT J (g b) (tt b) (act b D) (fun _ H' => Q (.ref D) H') W
section
variable {X : Cx} {e tg iter : Expr} {ifs : List Expr} {gs : List Comprehension} {scope scX : Scope} {pos : Pos} {own cap : List Str} {ix : List Nat} {wi : TI} {g : BI → TG} {tt : BI → TT} {act : BI → Addr → TAct} {tail : Addr → Env → Sem Unit} {newAcc : Sem Value} {ob : Obj} {o0 : HO} {p : Pos}
structure CodeC (X : Cx) (e : Expr) (depth : Nat) (p : Pos) (tg : Expr) (ifs : List Expr) (tail : Addr → Env → Sem Unit) : Prop where
  hq : ∀ it D env, (Code.compLoop e depth (.ref it) (.ref D) env).quiet = true
  hden : ∀ (it D : Addr) (env : Env) (Q : Fin → Shared → Prop) (E : Value → Shared → Prop) (s : Shared), wpAny (model X.prog X.w) X.A (turnC p tg ifs env (.ref it) (tail D env) (.compLoop e depth (.ref it) (.ref D) env)) Q (notedBy (model X.prog X.w) X.A env E) s →
      wpAny (model X.prog X.w) (X.A.under (.compLoop e depth (.ref it) (.ref D) env)) ((model X.prog X.w).den (.compLoop e depth (.ref it) (.ref D) env)) Q E s
  hst : ∀ (it D : Addr) (env : Env) (R : Result → Shared → Prop) (s : Shared), codeAny (model X.prog X.w) X.A (.compLoop e depth (.ref it) (.ref D) env) R s →
      (∀ Q E, Q (.ref it) s → wpAny (model X.prog X.w) X.A (pyIter (.ref it)) Q E s) → codeAny (model X.prog X.w) X.A (.compStart e depth (.ref it) (.ref D) env) R s
theorem comp_enterG {pins : List (Addr × Obj)} {σ : St} {H : Hp} {s : Shared} {Q : VK} {use : Option (Value → Sem Unit)} {Q' : Value → Shared → Prop} (hcl : clausesOf e = ⟨tg, iter, ifs, 0⟩ :: gs) (C0 : CodeC X e 0 p tg ifs tail)
    (hnew : ∀ (pins : List (Addr × Obj)) (σ : St) (H : Hp) (s : Shared) (Q : Value → Shared → Prop) (E : Value → Shared → Prop), Inv X pins σ H s → (Inv X pins σ (upd H s.heap.objs.size o0) { s with heap := s.heap.push ob } → Q (.ref s.heap.objs.size) { s with heap := s.heap.push ob }) → wpAny (model X.prog X.w) X.A newAcc Q E s)
    (hc : X.calm = true) (hX : X.env.scope = scX) (S : BlkS scX scope X.N own cap ix) (hi : PI X tg iter wi)
    (hg : ∀ b, PG (blk X scope (own ++ cap) b) tg (g b)) (ht : ∀ b, PIf (blk X scope (own ++ cap) b) ifs (tt b)) (ha : ∀ b D, PAct (blk X scope (own ++ cap) b) (tail D (blk X scope (own ++ cap) b).env) (act b D))
    (hs : ∀ x, foldedSetIterable iter X.env x = pure x) (I : Inv X pins σ H s) (h : tCompG own ix o0 wi g tt act σ H Q)
    (out : ∀ (D C : Addr) (H' : Hp) (s' : Shared), Q (.ref D) H' → (∃ m, s'.heap.Ns C m) → FpOk X pins H' C → (∀ h', Heap.SameBut C s'.heap h' → Inv X pins σ H' { s' with heap := h' }) →
      compPost (model X.prog X.w) X.A X.xe use Q' (.ref D) C (.ok .next) s') :
    wpAny (model X.prog X.w) X.A (comprehension e scope X.env pos newAcc false (eval iter X.env) use) Q' X.xe s := by
  have hclos := closureFor_eq (scope := scope) (env := X.env) fun y hy hk => by
    have hf := S.free y hy hk
    rw [← hX] at hf
    exact I.ok.has y.1 hf
  refine wpAny_comprehension_free (use := use) hcl hs hclos S.kind (fun y hy hk => by rw [S.nm y hy, hk]) (thn (hi pins s σ H _ I h) fun v s1 h1 => thn h1 fun itv s2 h2 => ?_)
  obtain ⟨it, fp, tn, J, H2, e1, I2, T, st2, f2, hR⟩ := h2
  subst e1
  refine hnew _ _ _ _ _ _ I2 fun I3 => ?_
  obtain ⟨W, ⟨m0, w0⟩, hW⟩ := hR s2.heap.objs.size I2.fresh
  have ltF : ∀ b ∈ fp, b < s2.heap.objs.size := fun b hb => let ⟨_, e, _⟩ := T.obj _ _ st2 b hb; Heap.lt_size e
  have f3 : ∀ b ∈ fp, FpOk X pins (upd H2 s2.heap.objs.size o0) b := fun b hb => ⟨by rw [upd_ne (Nat.ne_of_lt (ltF b hb))]; exact (f2 b hb).1, (f2 b hb).2⟩
  have st3 : tn 0 (s2.heap.push ob) := T.keep _ _ _ st2 fun b hb o e => Heap.get?_push_of_some _ e
  generalize hs3 : ({ s2 with heap := s2.heap.push ob } : Shared) = s3 at I3
  have st3' : tn 0 s3.heap := by rw [← hs3]; exact st3
  have ob3 : ∀ b ∈ fp, ∃ o, s3.heap.get? b = some o := fun b hb => let ⟨o, e, _⟩ := T.obj _ _ st3' b hb; ⟨o, e⟩
  have I4 := blk_inv S hX I3 f3 ob3
  have st4 : tn 0 (hpB s3 scope) := T.keep _ _ _ st3' fun b _ o e => hpB_keeps s3 scope b o e
  refine newEnv_blk ?_
  have f4 : ∀ b ∈ fp, FpOk (blk X scope (own ++ cap) (biB X pins s3 (upd H2 s2.heap.objs.size o0) scope fp)) [] (upd H2 s2.heap.objs.size o0) b := fun b hb => by
    refine ⟨(f3 b hb).1, (I4.ok.exf b hb).1, I4.ok.exfs b hb, .inl hb, (I4.ok.exf b hb).2, fun p hp => ?_⟩
    have hp' : p ∈ X.pn ++ pins := by
      rcases List.mem_append.mp hp with z | z
      · exact z
      · exact nomatch z
    exact (f3 b hb).2.2.2.2.2 p hp'
  have loop := loopG (X := blk X scope (own ++ cap) (biB X pins s3 (upd H2 s2.heap.objs.size o0) scope fp)) (e := e) (depth := 0) (acc := .ref s2.heap.objs.size) (C0.hq _ _ _) (C0.hden _ _ _) (fun _ _ f => f) hc T f4 I4 st4 (hg _) (ht _) (ha _ _) (hW _) w0
  have fin : codeAny (model X.prog X.w) X.A (.compLoop e 0 (.ref it) (.ref s2.heap.objs.size) (envB scope (clB X s3 scope) s3.heap.objs.size X.env))
      (compPost (model X.prog X.w) X.A X.xe use Q' (.ref s2.heap.objs.size) s3.heap.objs.size) { s3 with heap := hpB s3 scope } := codeAny_mono loop fun r s' ⟨σ', H', hr, J', q⟩ => by
    subst hr
    exact out _ _ H' s' q (let ⟨m, hn, _⟩ := J'.loc; ⟨m, hn⟩) (I3.fpOk (Nat.le_refl _) J'.free) fun h' hh => blk_out I3 f3 J' hh
  exact C0.hst _ _ _ _ _ fin fun Q E q => T.self _ 0 _ _ _ st4 q
end
section
variable {X : Cx} {elt kx vx tg iter tg1 iter1 : Expr} {ifs ifs1 : List Expr} {scope : Scope} {pos : Pos}
noncomputable def tailL (elt : Expr) (D : Addr) (env : Env) : Sem Unit := do let _ ← call (.builtin "list.append") [.ref D, ← eval elt env]
noncomputable def tailD (kx vx : Expr) (D : Addr) (env : Env) : Sem Unit := do
    let kv ← eval kx env
    let vv ← holding [kv] (eval vx env)
    standAt { kx.pos with endLine := vx.pos.endLine, endCol := vx.pos.endCol }
    holding [kv, vv] (dictSet D kv vv)
noncomputable def tailI (e iter : Expr) (D : Addr) (env : Env) : Sem Unit := do
      let x ← eval iter env
      standAt iter.pos
      let x ← foldedSetIterable iter env x
      let _ ← runOwn (.compStart e 1 (← holding [x] (pyIter x)) (.ref D) env) env
theorem turnL2 (it : Value) (D : Addr) (env : Env) : compTurn (.ListComp elt [⟨tg, iter, ifs, 0⟩, ⟨tg1, iter1, ifs1, 0⟩] scope pos) 0 it (.ref D) env = turnC iter.pos tg ifs env it (tailI (.ListComp elt [⟨tg, iter, ifs, 0⟩, ⟨tg1, iter1, ifs1, 0⟩] scope pos) iter1 D env) (.compLoop (.ListComp elt [⟨tg, iter, ifs, 0⟩, ⟨tg1, iter1, ifs1, 0⟩] scope pos) 0 it (.ref D) env) := by
  unfold compTurn turnC tailI
  simp only [List.getElem?_cons_zero, List.getElem?_cons_succ, bne_self_eq_false, Bool.false_eq_true, if_false, bind_assoc, pure_bind]
  rfl
theorem turnD2 (it : Value) (D : Addr) (env : Env) : compTurn (.DictComp kx vx [⟨tg, iter, ifs, 0⟩, ⟨tg1, iter1, ifs1, 0⟩] scope pos) 0 it (.ref D) env = turnC iter.pos tg ifs env it (tailI (.DictComp kx vx [⟨tg, iter, ifs, 0⟩, ⟨tg1, iter1, ifs1, 0⟩] scope pos) iter1 D env) (.compLoop (.DictComp kx vx [⟨tg, iter, ifs, 0⟩, ⟨tg1, iter1, ifs1, 0⟩] scope pos) 0 it (.ref D) env) := by
  unfold compTurn turnC tailI
  simp only [List.getElem?_cons_zero, List.getElem?_cons_succ, bne_self_eq_false, Bool.false_eq_true, if_false, bind_assoc, pure_bind]
  rfl
theorem startC {e : Expr} {d : Nat} {gl : Comprehension} {it acc : Value} {env : Env} {R : Result → Shared → Prop} {s : Shared} (hf : (Code.compStart e d it acc env).isFrame = false) (hg : (clausesOf e)[d]? = some gl) (ha : gl.is_async = 0) (hu : ∀ A : Around, A.under (.compStart e d it acc env) = A) (hq : (Code.compLoop e d it acc env).quiet = true)
    (hd : (model X.prog X.w).den (.compStart e d it acc env) = (compStart e d it acc env).onRaise (fun x => do noteFrame x env; standAt theWindowsPlace))
    (h0 : codeAny (model X.prog X.w) X.A (.compLoop e d it acc env) R s) (h : ∀ Q E, Q it s → wpAny (model X.prog X.w) X.A (pyIter it) Q E s) : codeAny (model X.prog X.w) X.A (.compStart e d it acc env) R s := by
  refine codeAny_of_tree ?_
  rw [hu, hd]
  refine wpAny_notedAt ?_
  unfold compStart
  rw [hg]
  simp only [Option.elim_some, ha]
  refine wpAny_bind (wpAny_askSetting (wpAny_ite ?_))
  split
  · exact wpAny_pure (And.intro hq h0)
  · refine wpAny_bind (wpAny_rule (wpAny_bind (wpAny_standAt (wpAny_bind (h _ _ ?_)))))
    exact wpAny_pure (And.intro hq h0)
theorem codeL2 : CodeC X (.ListComp elt [⟨tg, iter, ifs, 0⟩, ⟨tg1, iter1, ifs1, 0⟩] scope pos) 0 iter.pos tg ifs (tailI (.ListComp elt [⟨tg, iter, ifs, 0⟩, ⟨tg1, iter1, ifs1, 0⟩] scope pos) iter1) where
  hq := fun _ _ _ => rfl
  hden := fun it D env Q E s h => by
    show wpAny _ X.A ((compTurn (.ListComp elt [⟨tg, iter, ifs, 0⟩, ⟨tg1, iter1, ifs1, 0⟩] scope pos) 0 (.ref it) (.ref D) env).onRaise (fun x => do noteFrame x env; theTreesLotGoes x)) _ _ s
    exact wpAny_noted (by rw [turnL2]; exact h)
  hst := fun it D env R s h0 h => startC rfl rfl rfl (fun _ => rfl) rfl rfl h0 h
theorem codeL2i : CodeC X (.ListComp elt [⟨tg, iter, ifs, 0⟩, ⟨tg1, iter1, ifs1, 0⟩] scope pos) 1 iter1.pos tg1 ifs1 (tailL elt) where
  hq := fun _ _ _ => rfl
  hden := fun it D env Q E s h => by
    show wpAny _ X.A ((compTurn (.ListComp elt [⟨tg, iter, ifs, 0⟩, ⟨tg1, iter1, ifs1, 0⟩] scope pos) 1 (.ref it) (.ref D) env).onRaise (fun x => do noteFrame x env; theTreesLotGoes x)) _ _ s
    exact wpAny_noted h
  hst := fun it D env R s h0 h => startC rfl rfl rfl (fun _ => rfl) rfl rfl h0 h
theorem codeD2 : CodeC X (.DictComp kx vx [⟨tg, iter, ifs, 0⟩, ⟨tg1, iter1, ifs1, 0⟩] scope pos) 0 iter.pos tg ifs (tailI (.DictComp kx vx [⟨tg, iter, ifs, 0⟩, ⟨tg1, iter1, ifs1, 0⟩] scope pos) iter1) where
  hq := fun _ _ _ => rfl
  hden := fun it D env Q E s h => by
    show wpAny _ X.A ((compTurn (.DictComp kx vx [⟨tg, iter, ifs, 0⟩, ⟨tg1, iter1, ifs1, 0⟩] scope pos) 0 (.ref it) (.ref D) env).onRaise (fun x => do noteFrame x env; theTreesLotGoes x)) _ _ s
    exact wpAny_noted (by rw [turnD2]; exact h)
  hst := fun it D env R s h0 h => startC rfl rfl rfl (fun _ => rfl) rfl rfl h0 h
theorem codeD2i : CodeC X (.DictComp kx vx [⟨tg, iter, ifs, 0⟩, ⟨tg1, iter1, ifs1, 0⟩] scope pos) 1 iter1.pos tg1 ifs1 (tailD kx vx) where
  hq := fun _ _ _ => rfl
  hden := fun it D env Q E s h => by
    show wpAny _ X.A ((compTurn (.DictComp kx vx [⟨tg, iter, ifs, 0⟩, ⟨tg1, iter1, ifs1, 0⟩] scope pos) 1 (.ref it) (.ref D) env).onRaise (fun x => do noteFrame x env; theTreesLotGoes x)) _ _ s
    exact wpAny_noted h
  hst := fun it D env R s h0 h => startC rfl rfl rfl (fun _ => rfl) rfl rfl h0 h
theorem new_list {pins : List (Addr × Obj)} {σ : St} {H : Hp} {s : Shared} {Q : Value → Shared → Prop} {E : Value → Shared → Prop} (I : Inv X pins σ H s)
    (h : Inv X pins σ (upd H s.heap.objs.size (.lst [])) { s with heap := s.heap.push { cls := .type "list", data := .seq ([] : List Value).toArray } } → Q (.ref s.heap.objs.size) { s with heap := s.heap.push { cls := .type "list", data := .seq ([] : List Value).toArray } }) : wpAny (model X.prog X.w) X.A (newList []) Q E s :=
  wpAny_newObj_type (h (I.lnew (t' := s.toks) (its := []) .nil (Nat.zero_le _)))
theorem new_dict {pins : List (Addr × Obj)} {σ : St} {H : Hp} {s : Shared} {Q : Value → Shared → Prop} {E : Value → Shared → Prop} (I : Inv X pins σ H s)
    (h : Inv X pins σ (upd H s.heap.objs.size (.dK [])) { s with heap := s.heap.push { cls := .type "dict", data := .dict #[] } } → Q (.ref s.heap.objs.size) { s with heap := s.heap.push { cls := .type "dict", data := .dict #[] } }) : wpAny (model X.prog X.w) X.A newDict Q E s :=
  wpAny_newObj_type (h (I.laid (a := s.heap.objs.size) (o := .dK []) (t' := s.toks) (fun _ _ q => Heap.get?_push_of_some _ q) (Nat.le_refl _) (dk_empty s.heap I.big)))
end
section
variable {X : Cx} {elt kx vx tg iter tg1 iter1 : Expr} {ifs ifs1 : List Expr} {scope scX : Scope} {pos : Pos} {own cap : List Str} {ix : List Nat} {wi : TI} {g g1 : BI → TG} {tt tt1 : BI → TT} {te tk tv : BI → TE} {wi1 : BI → TI}
noncomputable abbrev tComp2 (own : List Str) (ix : List Nat) (wi : TI) (g : BI → TG) (tt : BI → TT) (wi1 : BI → TI) (g1 : BI → TG) (tt1 : BI → TT) (te : BI → TE) : TE := tCompG own ix (.lst []) wi g tt fun b D => aIn (wi1 b) (g1 b) (tt1 b) (aPut2 D (te b))
noncomputable abbrev tCompD2 (own : List Str) (ix : List Nat) (wi : TI) (g : BI → TG) (tt : BI → TT) (wi1 : BI → TI) (g1 : BI → TG) (tt1 : BI → TT) (tk tv : BI → TE) : TE := tCompG own ix (.dK []) wi g tt fun b D => aIn (wi1 b) (g1 b) (tt1 b) (aDictK D (tk b) (tv b))
theorem pe_comp2 (hc : X.calm = true) (hX : X.env.scope = scX) (S : BlkS scX scope X.N own cap ix) (hi : PI X tg iter wi) (hg : ∀ b, PG (blk X scope (own ++ cap) b) tg (g b)) (ht : ∀ b, PIf (blk X scope (own ++ cap) b) ifs (tt b))
    (hi1 : ∀ b, PI (blk X scope (own ++ cap) b) tg1 iter1 (wi1 b)) (hg1 : ∀ b, PG (blk X scope (own ++ cap) b) tg1 (g1 b)) (ht1 : ∀ b, PIf (blk X scope (own ++ cap) b) ifs1 (tt1 b))
    (he : ∀ b, PE (blk X scope (own ++ cap) b) elt (te b)) (hs : ∀ x, foldedSetIterable iter X.env x = pure x := by intro _; rfl) (hs1 : ∀ env x, foldedSetIterable iter1 env x = pure x := by intro _ _; rfl) :
    PE X (.ListComp elt [⟨tg, iter, ifs, 0⟩, ⟨tg1, iter1, ifs1, 0⟩] scope pos) (tComp2 own ix wi g tt wi1 g1 tt1 te) := by
  intro pins s σ H Q I h
  rw [eval_ListComp]
  refine comp_enterG (use := none) rfl codeL2 (fun _ _ _ _ _ _ => new_list) hc hX S hi hg ht (fun b D => pact_in (acc := .ref D) (fun it => (codeL2i (X := blk X scope (own ++ cap) b)).hq it D _) (fun it => (codeL2i (X := blk X scope (own ++ cap) b)).hden it D _) (fun it => (codeL2i (X := blk X scope (own ++ cap) b)).hst it D _) (fun _ _ f => f) hc (hi1 b) (hg1 b) (ht1 b) (pact_put (fun _ _ f => f) (he b)) (hs1 _)) hs I h fun D C H' s' q hn _ hI => ?_
  obtain ⟨m, hn⟩ := hn
  exact ⟨m, hn, fun h' hh => ⟨.ref D, H', hI h' hh, rfl, q⟩⟩
theorem ps_setCompD {i : Nat} {x : Str} {pos' spos : Pos} (hN : X.N.Nodup) (hx1 : X.N[i]? = some x) (hx : X.env.scope.names.lookup x = some .local) (hc : X.calm = true) (hX : X.env.scope = scX) (S : BlkS scX scope X.N own cap ix) (hi : PI X tg iter wi)
    (hg : ∀ b, PG (blk X scope (own ++ cap) b) tg (g b)) (ht : ∀ b, PIf (blk X scope (own ++ cap) b) ifs (tt b))
    (hi1 : ∀ b, PI (blk X scope (own ++ cap) b) tg1 iter1 (wi1 b)) (hg1 : ∀ b, PG (blk X scope (own ++ cap) b) tg1 (g1 b)) (ht1 : ∀ b, PIf (blk X scope (own ++ cap) b) ifs1 (tt1 b))
    (hk : ∀ b, PE (blk X scope (own ++ cap) b) kx (tk b)) (hv : ∀ b, PE (blk X scope (own ++ cap) b) vx (tv b)) (hs : ∀ x, foldedSetIterable iter X.env x = pure x := by intro _; rfl) (hs1 : ∀ env x, foldedSetIterable iter1 env x = pure x := by intro _ _; rfl)
    (hsw : swapsWith (.DictComp kx vx [⟨tg, iter, ifs, 0⟩, ⟨tg1, iter1, ifs1, 0⟩] scope pos) (some (.Name x pos')) spos.line X.env = pure true := by rfl) :
    PS X (.Assign [.Name x pos'] (.DictComp kx vx [⟨tg, iter, ifs, 0⟩, ⟨tg1, iter1, ifs1, 0⟩] scope pos) spos) (tAsg (tCompD2 own ix wi g tt wi1 g1 tt1 tk tv) (gName i)) := by
  intro pins s σ H D I h
  rw [exec_Assign_Name_used _ _ _ _ hsw]
  refine wpAny_bind (wpAny_standAt (wpAny_bind ?_))
  show wpAny _ X.A (do let _ ← comprehension (.DictComp kx vx [⟨tg, iter, ifs, 0⟩, ⟨tg1, iter1, ifs1, 0⟩] scope pos) scope X.env _ newDict false (eval iter X.env) (some (assign (.Name x pos') X.env))) _ _ s
  refine wpAny_bind (wpAny_mono (comp_enterG (use := some (assign (.Name x pos') X.env)) (Q := fun v H1 => gName i v σ H1 D.nx) (Q' := fun _ s' => SP X pins D .next s') rfl codeD2 (fun _ _ _ _ _ _ => new_dict) hc hX S hi hg ht
    (fun b D => pact_in (acc := .ref D) (fun it => (codeD2i (X := blk X scope (own ++ cap) b)).hq it D _) (fun it => (codeD2i (X := blk X scope (own ++ cap) b)).hden it D _) (fun it => (codeD2i (X := blk X scope (own ++ cap) b)).hst it D _) (fun _ _ f => f) hc (hi1 b) (hg1 b) (ht1 b) (pact_dict (fun _ _ f => f) (hk b) (hv b)) (hs1 _)) hs I h fun D1 C H' s' q hn fC hI => ?_) (fun _ s' hq => wpAny_pure (wpAny_pure hq)) fun _ _ e => e)
  obtain ⟨m, hn⟩ := hn
  have I0 : Inv X pins σ H' s' := by
    have z := hI s'.heap (Heap.SameBut.refl ..)
    exact z
  show wpAny _ X.A (assign (.Name x pos') X.env (.ref D1)) _ _ _
  refine wpAny_assign_Name (store_ok2 I0 hN hx1 (.inl hx) (show RelV (.ref D1) (.ref D1) from rfl) (fun s2 I2 ⟨a, sb, ha⟩ => ?_) (.inr hx))
  have na : C ≠ a := by
    rcases ha with e | e
    · rw [e]; exact fC.2.1
    · intro z; exact fC.2.2.2.2.1 x a e z.symm
  refine ⟨m, hn.sameBut sb na, fun h' hh => ?_⟩
  refine ⟨_, H', ?_, q⟩
  exact I2.turned (it := C) (t' := s2.toks) (fun b o hb e => (hh.2 b hb).trans e) fC.1 fC.2.1 fC.2.2.2.1 fC.2.2.2.2.1 fC.2.2.2.2.2
end
end L2
namespace L2
open PySem PySem.Spec PyProof.Rows
section
variable {X : Cx} {pins : List (Addr × Obj)} {σ : St} {H : Hp} {s : Shared} {h' : Heap}
theorem Inv.turnedL {t' : Nat} {its : List Addr} (I : Inv X pins σ H s) (k : ∀ b o, b ∉ its → s.heap.get? b = some o → h'.get? b = some o) (hf : ∀ b ∈ its, FpOk X pins H b) : Inv X pins σ H { s with heap := h', toks := t' } := by
  have nit : ∀ b u, H b = some u → b ∉ its := fun b u e z => by rw [(hf b z).1] at e; cases e
  refine I.step (g' := s.gens) (d' := s.drawn) (ch := its) (fun b hb => ⟨(hf b hb).2.2.2.1, (hf b hb).2.1, (hf b hb).2.2.2.2.1, (hf b hb).2.2.2.2.2⟩) (fun b o _ _ hc e _ => k b o hc e) (fun b o _ _ hc e _ => ⟨o.slots, k b o hc e⟩) (fun _ _ _ _ n => n)
    (fun b o hc e => ⟨o, k b o hc e⟩) (fun _ _ e => e) (fun _ _ _ e => e) (fun b ps e => ⟨#[], by rw [e]; simp⟩) (fun m hm => ?_) (fun b u e => ?_) I.bare
  · obtain ⟨o, es, ep, ho, r⟩ := hm
    exact ⟨o, es, ep, k _ o (fun z => (hf _ z).2.1 rfl) ho, r⟩
  · refine (I.hok b u e).stay (fun c v hc q => k c v ?_ q) (fun _ q => q) fun _ _ q => q
    rcases hc with z | z
    · rw [z]; exact nit b u e
    · exact nit c _ z
end
noncomputable def Itz (K : PySem.W.Frag) (a b : Addr) (xs ys : List V) : It :=
  ⟨fun i H => SqL K H a xs ∧ SqL K H b ys ∧ i < xs.length ∧ i < ys.length, fun i H v H' => ∃ T x y, H T = none ∧ v = .ref T ∧ xs[i]? = some x ∧ ys[i]? = some y ∧ H' = upd H T (.tup [x, y]), fun i H => SqL K H a xs ∧ SqL K H b ys ∧ (xs.length ≤ i ∨ ys.length ≤ i)⟩
noncomputable def ZipAt (z TI TO i1 i2 a b : Addr) (i : Nat) (h : Heap) : Prop := IsZip h z TI TO .none ∧ IsPair h TI (.ref i1) (.ref i2) ∧ (∃ p q, IsPair h TO p q) ∧ h.IsListIter i1 a i ∧ h.IsListIter i2 b i
theorem turn_zip {P : Program} {w : World} {K : PySem.W.Frag} {elts : List Expr} {k : Nat} {pos : Pos} (z TI TO i1 i2 a b : Addr) (D : ZipApart z TI TO i1 i2 a b) (xs ys : List V) :
    Turn P w K (.Tuple elts k pos) (Itz K a b xs ys) [z, TI, TO, i1, i2] z (ZipAt z TI TO i1 i2 a b) where
  mem := by simp
  obj := fun i h st c hc => by
    obtain ⟨hz, hTI, ⟨p, q, hTO⟩, ⟨o1, e1, c1, d1⟩, ⟨o2, e2, c2, d2⟩⟩ := st
    simp only [List.mem_cons, List.not_mem_nil, or_false] at hc
    rcases hc with rfl | rfl | rfl | rfl | rfl
    · exact ⟨_, hz, fun v z => by cases (show Data.fields _ = Data.cell v from z)⟩
    · exact ⟨_, hTI, fun v z => by cases (show Data.seq _ _ = Data.cell v from z)⟩
    · exact ⟨_, hTO, fun v z => by cases (show Data.seq _ _ = Data.cell v from z)⟩
    · exact ⟨o1, e1, fun v z => by rw [d1] at z; cases z⟩
    · exact ⟨o2, e2, fun v z => by rw [d2] at z; cases z⟩
  keep := fun i h h' st k => by
    obtain ⟨hz, hTI, ⟨p, q, hTO⟩, h1, h2⟩ := st
    exact ⟨k z (by simp) _ hz, k TI (by simp) _ hTI, ⟨p, q, k TO (by simp) _ hTO⟩, h1.at fun o e => k i1 (by simp) o e, h2.at fun o e => k i2 (by simp) o e⟩
  item := by
    intro X hP hw hK hc i pins s σ H E I hf st hg
    subst hP hw hK
    obtain ⟨hq1, hq2, l1, l2⟩ := hg
    obtain ⟨hz, hTI, ⟨p, q, hTO⟩, h1, h2⟩ := st
    obtain ⟨its1, rv1, pl1, _⟩ := I.list hq1
    obtain ⟨its2, rv2, pl2, _⟩ := I.list hq2
    have x1 : xs[i]? = some xs[i] := List.getElem?_eq_getElem l1
    have y1 : ys[i]? = some ys[i] := List.getElem?_eq_getElem l2
    obtain ⟨u, hu, ru⟩ := rv1.get x1
    obtain ⟨u2, hu2, ru2⟩ := rv2.get y1
    refine wpAny_pyNext_zip_item D hz hTI hTO h1 h2 pl1.isList pl2.isList (x := u) (y := u2) (by simpa using hu) (by simpa using hu2) fun h' a1 a2 a3 a4 a5 a6 a7 => ?_
    refine ⟨_, rfl, wpAny_letOwnedTupleGo_zip a1 fun h2' b1 b2 => ?_⟩
    have kk : ∀ c o, c ∉ [z, TI, TO, i1, i2] → s.heap.get? c = some o → h2'.get? c = some o := fun c o hc e => by
      simp only [List.mem_cons, List.not_mem_nil, or_false, not_or] at hc
      exact (b2.2 c hc.1).trans (a7 c o hc.1 hc.2.2.1 hc.2.2.2.1 hc.2.2.2.2 e)
    have ltz : z < s.heap.objs.size := Heap.lt_size hz
    have nz : s.heap.objs.size ≠ z := Nat.ne_of_gt ltz
    have eT : h2'.get? s.heap.objs.size = some { cls := .type "tuple", data := .seq #[u, u2] } := (b2.2 _ nz).trans a5
    have fresh : H s.heap.objs.size = none := I.hok.fresh (Nat.le_refl _)
    have ltF : ∀ c ∈ [z, TI, TO, i1, i2], c < s.heap.objs.size := fun c hc => by
      simp only [List.mem_cons, List.not_mem_nil, or_false] at hc
      obtain ⟨o1, e1, _⟩ := h1
      obtain ⟨o2, e2, _⟩ := h2
      rcases hc with rfl | rfl | rfl | rfl | rfl
      · exact ltz
      · exact Heap.lt_size hTI
      · exact Heap.lt_size hTO
      · exact Heap.lt_size e1
      · exact Heap.lt_size e2
    have I1 : Inv X pins σ (upd H s.heap.objs.size (.tup [xs[i], ys[i]])) { s with heap := s.heap.push { cls := .type "tuple", data := .seq #[u, u2] } } :=
      I.laid (t' := s.toks) (fun _ _ e => Heap.get?_push_of_some _ e) (Nat.le_refl _) ⟨by show 2 ≤ sizeLine; rw [sizeLine_eq]; decide, [u, u2], .cons ru (.cons ru2 .nil), IsTup.new _ _⟩
    have hf1 : ∀ c ∈ [z, TI, TO, i1, i2], FpOk X pins (upd H s.heap.objs.size (.tup [xs[i], ys[i]])) c := fun c hc => ⟨by rw [upd_ne (Nat.ne_of_lt (ltF c hc))]; exact (hf c hc).1, (hf c hc).2⟩
    have I2 : Inv X pins σ (upd H s.heap.objs.size (.tup [xs[i], ys[i]])) { s with heap := h2' } := I1.turnedL (t' := s.toks) (fun c o hc e => by
      by_cases ec : c = s.heap.objs.size
      · subst ec
        have e' : (s.heap.push { cls := .type "tuple", data := .seq #[u, u2] }).get? s.heap.objs.size = some o := e
        rw [Heap.get?_push_size _ rfl] at e'
        cases e'
        exact eT
      · have e' : (s.heap.push { cls := .type "tuple", data := .seq #[u, u2] }).get? c = some o := e
        rw [Heap.get?_push_ne _ _ _ ec] at e'
        exact kk c o hc e') hf1
    refine ⟨.ref s.heap.objs.size, _, I2, rfl, ⟨_, _, _, fresh, rfl, x1, y1, rfl⟩, ⟨b1, ?_, ⟨u, u2, ?_⟩, ?_, ?_⟩, fun c hc => (hf1 c hc).1⟩
    · exact (b2.2 _ D.TIz).trans (a7 TI _ D.TIz D.TITO D.TIi1 D.TIi2 hTI)
    · exact (b2.2 _ D.TOz).trans a2
    · exact a3.at fun o e => (b2.2 _ D.i1z).trans e
    · exact a4.at fun o e => (b2.2 _ D.i2z).trans e
  done := by
    intro X hP hw hK hc i pins s σ H E I hf st hg
    subst hP hw hK
    obtain ⟨hq1, hq2, hl⟩ := hg
    obtain ⟨hz, hTI, ⟨p, q, hTO⟩, h1, h2⟩ := st
    obtain ⟨its1, rv1, pl1, _⟩ := I.list hq1
    obtain ⟨its2, rv2, pl2, _⟩ := I.list hq2
    have e1 := rv1.length
    have e2 := rv2.length
    refine wpAny_pyNext_zip_end (I.ok.hd hc) D hz hTI hTO h1 h2 pl1.isList pl2.isList (by rcases hl with hl | hl; · left; simp; omega
                                                                                          · right; simp; omega) fun h' kk => ⟨rfl, I.turnedL (t' := s.toks) (fun c o hc e => ?_) hf⟩
    simp only [List.mem_cons, List.not_mem_nil, or_false, not_or] at hc
    exact kk c o hc.1 hc.2.2.1 hc.2.2.2.1 hc.2.2.2.2 e
  self := fun _ _ _ _ _ st h => wpAny_pyIter_zip st.1 h
noncomputable def iZip (K : PySem.W.Frag) (ta : TA) : TI := fun σ H R => ta σ H fun vs H1 => ∃ a b xs ys, vs = [.ref a, .ref b] ∧ SqL K H1 a xs ∧ SqL K H1 b ys ∧ R (Itz K a b xs ys) H1
theorem pi_zip {X : Cx} {a b : Expr} {ta : TA} {p pos : Pos} {elts : List Expr} {k : Nat} {tp : Pos} (hg : Gl X "zip") (hm : X.mg "zip" = none) (ha : PA X [a, b] ta) (hs : starEach [a, b] X.env = [(false, eval a X.env), (false, eval b X.env)] := by rfl) (hs2 : starEach [b] X.env = [(false, eval b X.env)] := by rfl) :
    PI X (.Tuple elts k tp) (.Call (.Name "zip" p) [a, b] [] pos) (iZip X.K ta) := by
  intro pins s σ H R I h
  refine Call_ (ld_blt I hg hm (show bootBuiltins "zip" = some (.type "zip") by decide +kernel) (PyProof.Rows.callWith_type1 (thn (ha pos pins s σ H _ I h) fun us s1 ⟨vs, H1, I1, r1, q1⟩ => ?_) (by rw [hs, hs2]) (by rw [hs2]; rfl)))
  obtain ⟨l1, l2, xs, ys, e, hq1, hq2, q⟩ := q1
  subst e
  obtain ⟨u, u', rfl, r, r'⟩ := vals2 r1
  cases (show u = Value.ref l1 from r)
  cases (show u' = Value.ref l2 from r')
  obtain ⟨its1, rv1, pl1, _⟩ := I1.list hq1
  obtain ⟨its2, rv2, pl2, _⟩ := I1.list hq2
  have a1 : l1 < s1.heap.objs.size := by obtain ⟨_, e, _⟩ := pl1.isList; exact Heap.lt_size e
  have a2 : l2 < s1.heap.objs.size := by obtain ⟨_, e, _⟩ := pl2.isList; exact Heap.lt_size e
  refine call_zip_2 pl1.isList pl2.isList fun h' hz hTI hTO hi1 hi2 _ hk => wpAny_pyIter_zip hz ?_
  refine ⟨_, _, _, _, H1, rfl, I1.kept (t' := s1.toks) hk, turn_zip _ _ _ _ _ l1 l2 (zipApart_new a1 a2) xs ys, ⟨hz, hTI, ⟨_, _, hTO⟩, hi1, hi2⟩, fun c hc => ?_, q⟩
  have le : s1.heap.objs.size ≤ c := by
    simp only [List.mem_cons, List.not_mem_nil, or_false] at hc
    rcases hc with rfl | rfl | rfl | rfl | rfl
    · exact Nat.le_add_right _ 4
    · exact Nat.le_add_right _ 2
    · exact Nat.le_add_right _ 3
    · exact Nat.le_refl _
    · exact Nat.le_add_right _ 1
  exact I1.fpOk le (I1.hok.fresh le)
noncomputable def Itr3 (lo c : Int) (n : Nat) : It := ⟨fun i _ => i < n, fun i H x H' => H' = H ∧ x = .int (lo + i * c), fun i _ => n ≤ i⟩
theorem turn_range3 {P : Program} {w : World} {K : PySem.W.Frag} {tg : Expr} (it : Addr) (lo c : Int) (n : Nat) : Turn P w K tg (Itr3 lo c n) [it] it (fun i h => IsRangeIter h it (lo + (i : Nat) * c) ((n : Int) - (i : Nat)) c) where
  mem := by simp
  obj := fun i h st b hb => by
    have e : b = it := by simpa using hb
    subst e
    exact ⟨_, st, fun v z => by cases (show Data.fields _ = Data.cell v from z)⟩
  keep := fun i h h' st k => k it (by simp) _ st
  item := by
    intro X hP hw hK hc i pins s σ H E I hf st hg
    subst hP hw hK
    obtain ⟨f0, f1, f2, f3, f4, f5⟩ := hf it (by simp)
    have W := Walks.range (prog := X.prog) (w := X.w) (I.ok.hd hc) it lo c n
    refine W.item i s _ _ hg st fun v h' tk hv st' kk => ?_
    obtain ⟨t, rfl⟩ := hv
    have I1 : Inv X pins σ H { s with heap := h', toks := tk } := I.turned (fun b o hb e => kk b o (by simpa using hb) e) f0 f1 f3 f4 f5
    exact ⟨_, rfl, go_of (s := { s with heap := h', toks := tk }) (n := "range_iterator") st' rfl rfl (by decide) ⟨.int (lo + i * c), H, I1, ⟨t, rfl⟩, ⟨rfl, rfl⟩, st', fun b hb => (hf b hb).1⟩⟩
  done := by
    intro X hP hw hK hc i pins s σ H E I hf st hg
    subst hP hw hK
    obtain ⟨f0, f1, f2, f3, f4, f5⟩ := hf it (by simp)
    exact wpAny_pyNext_range_end (I.ok.hd hc) st (by have : n ≤ i := hg; omega) fun h' eb => ⟨rfl, I.turned (t' := s.toks) (fun b o hb e => eb b o hb e) f0 f1 f3 f4 f5⟩
  self := fun _ _ _ _ _ st h => wpAny_pyIter_rangeiter st h
noncomputable def iRng3 (ta : TA) : TI := fun σ H R => ta σ H fun vs H1 => ∃ i j c : Int, vs = [.int i, .int j, .int c] ∧ (0 ≤ i ∧ i < 1000000 ∧ 0 ≤ j ∧ j < 1000000 ∧ 0 < c ∧ c < 1000000) ∧ R (Itr3 i c (Builtin.Range.rangeSize i j c).toNat) H1
theorem pi_range3 {X : Cx} {tg a b c : Expr} {ta : TA} {p pos : Pos} (hg : Gl X "range") (hm : X.mg "range" = none) (ha : PA X [a, b, c] ta) (hs : starEach [a, b, c] X.env = [(false, eval a X.env), (false, eval b X.env), (false, eval c X.env)] := by rfl) (hs2 : starEach [b, c] X.env = [(false, eval b X.env), (false, eval c X.env)] := by rfl) :
    PI X tg (.Call (.Name "range" p) [a, b, c] [] pos) (iRng3 ta) := by
  intro pins s σ H R I h
  refine Call_ (ld_blt I hg hm boot_range (PyProof.Rows.callWith_type1 (thn (ha pos pins s σ H _ I h) fun us s1 ⟨vs, H1, I1, r1, q1⟩ => ?_) (by rw [hs, hs2]) (by rw [hs2]; rfl)))
  obtain ⟨i, j, d, e, ⟨q1, q2, q3, q4, q5, q6⟩, q⟩ := q1
  subst e
  cases r1 with
  | cons r rr =>
    cases rr with
    | cons r' rr =>
      cases rr with
      | cons r'' rr =>
        cases rr
        obtain ⟨t, rfl⟩ := r
        obtain ⟨t', rfl⟩ := r'
        obtain ⟨t'', rfl⟩ := r''
        have sz0 : 0 ≤ Builtin.Range.rangeSize i j d := by
          unfold Builtin.Range.rangeSize
          rw [if_pos q5]
          split
          · have := Int.ediv_nonneg (a := j - i - 1) (b := d) (by omega) (by omega)
            omega
          · exact Int.le_refl 0
        have sz1 : Builtin.Range.rangeSize i j d ≤ 1000000 := by
          unfold Builtin.Range.rangeSize
          rw [if_pos q5]
          split
          · have := Int.ediv_le_self (a := j - i - 1) d (by omega)
            omega
          · omega
        have fits : ∀ z : Int, -1 ≤ z → z ≤ 3000000 → Builtin.Range.rangeFitsLong z = true := fun z h1 h2 => by
          unfold Builtin.Range.rangeFitsLong
          simp
          omega
        have small : Builtin.Range.small i j d = true := by
          unfold Builtin.Range.small
          rw [fits i (by omega) (by omega), fits j (by omega) (by omega), fits d (by omega) (by omega), fits _ (by omega) (by omega), if_pos q5, fits (j + (d - 1)) (by omega) (by omega)]
          simp
        refine call_range_3 (by omega) (wpAny_pyIter_range (IsRange.new ..) small ?_) (.inl (PyProof.noPylong_small (by omega)))
        have I2 : Inv X pins σ H1 { s1 with heap := s1.heap.push { cls := .type "range", data := .fields #[.int i t, .int j t', .int d t''] } } := I1.kept (t' := s1.toks) fun b o e => Heap.get?_push_of_some _ e
        refine ⟨(s1.heap.push { cls := .type "range", data := .fields #[.int i t, .int j t', .int d t''] }).objs.size, [(s1.heap.push { cls := .type "range", data := .fields #[.int i t, .int j t', .int d t''] }).objs.size], _, _, H1, rfl,
          I2.kept (t' := s1.toks) fun b o e => Heap.get?_push_of_some _ e, turn_range3 _ i d (Builtin.Range.rangeSize i j d).toNat, ?_, fun b hb => ?_, q⟩
        · have e1 : i + ((0 : Nat) : Int) * d = i := by simp
          have e2 : ((Builtin.Range.rangeSize i j d).toNat : Int) - ((0 : Nat) : Int) = Builtin.Range.rangeSize i j d := by omega
          show IsRangeIter _ _ (i + ((0 : Nat) : Int) * d) (((Builtin.Range.rangeSize i j d).toNat : Int) - ((0 : Nat) : Int)) d
          rw [e1, e2]
          exact Heap.get?_push_size _ rfl
        · have e : b = (s1.heap.push { cls := .type "range", data := .fields #[.int i t, .int j t', .int d t''] }).objs.size := by simpa using hb
          subst e
          exact I2.fpOk (Nat.le_refl _) (I2.hok.fresh (Nat.le_refl _))
end L2
namespace L2
open PySem PySem.Spec PyProof.Rows
noncomputable def amK (ks : List Key) (k : Key) : Bool := ks.any fun x => decide (x = k)
theorem amK_iff {ks : List Key} {k : Key} : amK ks k = true ↔ k ∈ ks := by
  unfold amK
  rw [List.any_eq_true]
  constructor
  · rintro ⟨x, h, e⟩
    rw [← of_decide_eq_true e]; exact h
  · exact fun h => ⟨k, h, decide_eq_true rfl⟩
theorem amK_snoc (ks : List Key) (k k' : Key) : amK (ks ++ [k]) k' = (amK ks k' || decide (k' = k)) := by
  unfold amK
  rw [List.any_append, List.any_cons, List.any_nil, Bool.or_false]
  congr 1
  rw [Bool.eq_iff_iff, decide_eq_true_iff, decide_eq_true_iff]
  exact ⟨Eq.symm, Eq.symm⟩
noncomputable def metI (ks : List Key) : Nat → List Key
  | 0 => []
  | i + 1 => match ks[i]? with
    | some k => if amK (metI ks i) k = true then metI ks i else metI ks i ++ [k]
    | none => metI ks i
theorem metI_succ {ks : List Key} {i : Nat} {k : Key} (h : ks[i]? = some k) : metI ks (i + 1) = if amK (metI ks i) k = true then metI ks i else metI ks i ++ [k] := by
  show (match ks[i]? with | some k => _ | none => _) = _
  rw [h]
theorem metI_le (ks : List Key) : ∀ i, (metI ks i).length ≤ i
  | 0 => Nat.le_refl _
  | i + 1 => by
    have := metI_le ks i
    unfold metI
    split
    · split
      · omega
      · rw [List.length_append]; simp; omega
    · omega
theorem metI_nodup {ks : List Key} (h : ks.Nodup) : ∀ i, i ≤ ks.length → metI ks i = ks.take i
  | 0, _ => rfl
  | i + 1, hi => by
    have hi' : i < ks.length := hi
    have ek : ks[i]? = some ks[i] := List.getElem?_eq_getElem hi'
    have e := metI_nodup h i (Nat.le_of_lt hi')
    rw [metI_succ ek, e, if_neg, List.take_add_one, ek]
    · rfl
    · intro z
      have z' := amK_iff.mp z
      obtain ⟨j, hj, ej⟩ := List.mem_iff_getElem.mp z'
      rw [List.length_take] at hj
      rw [List.getElem_take] at ej
      have := (List.getElem_inj (i := j) (j := i) (h₀ := by omega) (h₁ := hi') h).mp ej
      omega
noncomputable abbrev setO (led : Bool) : Obj := { cls := .type "set", dict := none, data := .set #[] 0 (.fresh 0 0 led) }
section
variable {prog : Program} {w : World} {A : Around} {E : Value → Shared → Prop} {s : Shared}
theorem setLoop {R : Result → Shared → Prop} {I : Addr} {fp wr : List Addr} {G : Array GenState → Array GenState → Prop} {P : Nat → Value → Prop} {St : Nat → Shared → Prop} {ks : List Key} (W : WalksS prog w A.in1 I fp wr G ks.length P St) (Z : Addr) (nZ : Z ∉ fp)
    (isK : ∀ i v, P i v → ∃ k, ks[i]? = some k ∧ (mixKind prog w).is k v = true ∧ v.scannable = true) (few : ks.length + 1 < scanBound) :
    ∀ (j i : Nat) (s : Shared), ks.length - i = j → i ≤ ks.length → St i s → s.heap.SetOf (mixKind prog w) Z (amK (metI ks i)) (metI ks i).length →
      (∀ s', Moved (Z :: wr) G s s' → s'.heap.SetOf (mixKind prog w) Z (amK (metI ks ks.length)) (metI ks ks.length).length → R (.ok (.ret .none)) s') →
      codeAny (model prog w) A (.builtin "set.update.loop" ⟨[.ref Z, .ref I], []⟩) R s := by
  have nW : Z ∉ wr := fun z => nZ (W.sub _ z)
  have sub : ∀ b ∈ wr, b ∈ Z :: wr := fun b z => List.mem_cons_of_mem _ z
  intro j
  induction j with
  | zero =>
    intro i s ej ei st zS out
    have ei' : i = ks.length := by omega
    subst ei'
    refine codeAny_builtin PyProof.Rows.F.entry_set_update_loop ?_
    rw [Around.under_plainId PyProof.Rows.F.plain_set_update_loop _]
    show wpAny _ A.in1 (pyNext (.ref I) >>= _) _ _ s
    refine wpAny_bind (W.done s _ _ st fun s' mv => ?_)
    show wpAny _ A.in1 (ret Value.none) _ _ s'
    obtain ⟨o, es, ep, t, ho, rest⟩ := zS
    exact wpAny_pure (out s' (mv.mono sub) ⟨o, es, ep, t, mv.heap Z _ nW ho, rest⟩)
  | succ j ih =>
    intro i s ej ei st zS out
    have lt : i < ks.length := by omega
    refine codeAny_builtin PyProof.Rows.F.entry_set_update_loop ?_
    rw [Around.under_plainId PyProof.Rows.F.plain_set_update_loop _]
    show wpAny _ A.in1 (pyNext (.ref I) >>= _) _ _ s
    refine wpAny_bind (W.item i s _ _ lt st fun v s' pv st' mv => ?_)
    obtain ⟨k, ek, hk, sc⟩ := isK i v pv
    have zS' : s'.heap.SetOf (mixKind prog w) Z (amK (metI ks i)) (metI ks i).length := let ⟨o, es, ep, t, ho, rest⟩ := zS; ⟨o, es, ep, t, mv.heap Z _ nW ho, rest⟩
    show wpAny _ A.in1 (holding [v] (setAdd Z v) >>= _) _ _ s'
    refine wpAny_bind (wpAny_holding ?_)
    unfold setAdd
    refine wpAny_holding ?_
    refine wpAny_bind ((mixKind prog w).pyHash hk ?_)
    have le := metI_le ks i
    refine wpAny_setAddHashed_of (knd := mixKind prog w) (s := { s' with toks := s'.toks + 1 }) hk sc zS' (by omega) fun h2 sb zS2 => ?_
    have zS3 : h2.SetOf (mixKind prog w) Z (amK (metI ks (i + 1))) (metI ks (i + 1)).length := by
      have zS2' : h2.SetOf (mixKind prog w) Z (fun k' => amK (metI ks i) k' || decide (k' = k)) (if amK (metI ks i) k = true then (metI ks i).length else (metI ks i).length + 1) := zS2
      rw [metI_succ ek]
      cases q : amK (metI ks i) k with
      | true =>
        rw [q, if_pos rfl] at zS2'
        rw [if_pos rfl]
        have ef : (fun k' => amK (metI ks i) k' || decide (k' = k)) = amK (metI ks i) := funext fun k' => by
          by_cases z : k' = k
          · subst z; rw [q]; rfl
          · rw [decide_eq_false z, Bool.or_false]
        rw [ef] at zS2'
        exact zS2'
      | false =>
        rw [q, if_neg Bool.false_ne_true] at zS2'
        rw [if_neg Bool.false_ne_true, List.length_append]
        have ef : (fun k' => amK (metI ks i) k' || decide (k' = k)) = amK (metI ks i ++ [k]) := funext fun k' => (amK_snoc _ _ _).symm
        rw [ef] at zS2'
        exact zS2'
    refine wpAny_pure ⟨plainId_quiet PyProof.Rows.F.plain_set_update_loop _, ih (i + 1) _ (by omega) lt (W.frame _ s' _ _ st' (Nat.le_succ _) fun b hb o e => ?_) zS3 fun s'' mv2 z2 => ?_⟩
    · rw [sb.2 b (fun z : b = Z => nZ (by rw [← z]; exact hb))]; exact e
    · refine out s'' (Moved.trans W.gtrans ((mv.mono sub).then_heap (Nat.le_succ _) fun b o hb e => ?_) mv2) z2
      rw [sb.2 b (fun z : b = Z => hb (by rw [z]; exact List.mem_cons_self))]; exact e
theorem setCall {l : Addr} {items : Array Value} {ks : List Key} {Q : Value → Shared → Prop} (hh : A.handled = none) (hl : s.heap.IsList l items) (hz : items.size = ks.length)
    (isK : ∀ (i : Nat) (v : Value), items[i]? = some v → ∃ k, ks[i]? = some k ∧ (mixKind prog w).is k v = true ∧ v.scannable = true) (few : ks.length + 1 < scanBound)
    (h : ∀ (h' : Heap) (tk : Nat), h'.SetOf (mixKind prog w) s.heap.objs.size (amK (metI ks ks.length)) (metI ks ks.length).length → (∀ b o, s.heap.get? b = some o → h'.get? b = some o) → Q (.ref s.heap.objs.size) { s with heap := h', toks := tk }) :
    wpAny (model prog w) A (call (.type "set") [.ref l]) Q E s := by
  obtain ⟨cm, tm, hmro⟩ := PySem.F.called_set.mro
  have made := PySem.F.called_set.made
  have subt := PySem.F.called_set.sub
  refine wpAny_call (codeAny_of_tree ?_)
  show wpAny _ _ (callAny (.type "set") _) _ _ _
  refine wpAny_pure ⟨Code.quiet_builtin _ (by decide +kernel), codeAny_builtin PySem.F.entry_type_call ?_⟩
  rw [Around.under_plain (weight_type_call_type "set" [.ref l] []) rfl]
  have c1 := PySem.F.called_set.notType
  have c2 := PySem.F.called_set.canCreate
  have c3 := PySem.F.typeCall_set_1 (.ref l)
  repeat (any_goals (first | assumption | wp_step))
  generalize hN : s.heap.objs.size = N at h
  refine codeAny_mono (code_set_new_1 (.ref l) (E := E) (Q₁ := fun ob s1 => ∃ led : Bool, ob = .ref s.heap.objs.size ∧ s1 = { s with heap := s.heap.push (setO led) }) fun led => ⟨led, rfl, rfl⟩) fun r s1 hr => ?_
  cases r with
  | error e => exact hr
  | ok fl =>
    cases fl with
    | ret ob =>
      obtain ⟨led, rfl, rfl⟩ := hr
      have gS : (s.heap.push (setO led)).get? s.heap.objs.size = some (setO led) := Heap.get?_push_size _ rfl
      have hT : Shared.TypeIs { s with heap := s.heap.push (setO led) } (.ref s.heap.objs.size) "set" := ⟨_, gS, rfl⟩
      have li := PySem.F.called_set.init.lookup
      have bi := PySem.F.called_set.init.bind (.ref s.heap.objs.size)
      repeat (any_goals (first | assumption | wp_step))
      refine codeAny_mono (codeAny_call_builtin (R := wants (fun r s2 => r = .none ∧ ∃ h' tk, s2 = { s with heap := h', toks := tk } ∧ h'.SetOf (mixKind prog w) s.heap.objs.size (amK (metI ks ks.length)) (metI ks ks.length).length ∧ (∀ b o, s.heap.get? b = some o → h'.get? b = some o)) E)
        PySem.F.called_set.init.plain PySem.F.entry_set_init (check_set_init_1 hT ?_)) fun r2 s2 hr2 => ?_
      · obtain ⟨ol, gl, cl, nl, dl⟩ := hl
        obtain ⟨oc, od, oa, os⟩ := ol
        simp only at cl dl
        subst cl dl
        have gl' : (s.heap.push (setO led)).get? l = some { cls := .type "list", dict := od, data := .seq items nl, slots := os } := Heap.get?_push_of_some _ gl
        have t1 := PySem.F.sub_list_set
        have t2 := PySem.F.sub_list_frozenset
        have t3 : (Value.type "list" == Value.type "dict") = false := by decide
        have lst : (s.heap.push (setO led)).IsList l items := ⟨_, gl', rfl, nl, rfl⟩
        unfold Builtin.«set.__init__» noKeywords Builtin.Frozenset.updateFrom
        generalize hPI : pyIter = PI
        wp_walk
        subst hPI
        refine wpAny_pyIter_list lst ?_
        refine (wpAny_bind (wpAny_runValue ?_))
        have lS : l < s.heap.objs.size := Heap.lt_size gl
        have h3 : A.in1.in1.in1.handled = none := by simp [hh]
        have sz : (s.heap.push (setO led)).objs.size = s.heap.objs.size + 1 := Heap.size_push ..
        have n1 : l ≠ (s.heap.push (setO led)).objs.size := by rw [sz]; exact Nat.ne_of_lt (Nat.lt_succ_of_lt lS)
        have n2 : s.heap.objs.size ∉ [(s.heap.push (setO led)).objs.size, l] := by
          rw [sz]
          intro z
          rcases List.mem_cons.mp z with z | z
          · exact absurd z (Nat.ne_of_lt (Nat.lt_succ_self _))
          · exact absurd (List.mem_singleton.mp z) (Nat.ne_of_gt lS)
        have W := (Walks.list (prog := prog) (w := w) h3 _ l n1 items).toS
        rw [hz] at W
        refine setLoop W s.heap.objs.size n2 isK few (ks.length - 0) 0 _ rfl (Nat.zero_le _) ⟨⟨_, Heap.get?_push_size _ rfl, rfl, rfl⟩, lst.push _⟩ ?_ fun s' mv z => ?_
        · have g2 : ((s.heap.push (setO led)).push { cls := .type "list_iterator", data := .fields #[.ref l, .int 0 0] }).get? s.heap.objs.size = some (setO led) := Heap.get?_push_of_some _ gS
          exact ⟨_, #[], 0, _, g2, ⟨rfl, rfl, rfl⟩, rfl, fun e he => by simp at he, fun k => by simp [metI, amK], by decide, rfl, rfl⟩
        · obtain ⟨h', g', d', tk', os'⟩ := s'
          obtain rfl : g' = s.gens := mv.gens
          obtain rfl : d' = s.drawn := mv.drawn
          obtain rfl : os' = s.os := mv.os
          show wpAny _ _ _ _ _ _
          refine wpAny_pure ?_
          show wpAny _ _ (ret Value.none) _ _ _
          refine wpAny_pure ⟨rfl, h', tk', rfl, z, fun b o e => ?_⟩
          have lb : b < s.heap.objs.size := Heap.lt_size e
          refine mv.heap b o (fun z => ?_) (Heap.get?_push_of_some _ (Heap.get?_push_of_some _ e))
          rcases List.mem_cons.mp z with z | z
          · exact absurd z (Nat.ne_of_lt lb)
          · exact absurd (List.mem_singleton.mp z) (by rw [sz]; exact Nat.ne_of_lt (Nat.lt_succ_of_lt lb))
      · cases r2 with
        | error e => exact hr2
        | ok fl2 =>
          cases fl2 with
          | ret r =>
            obtain ⟨rfl, h', tk, rfl, zS, kk⟩ := hr2
            repeat (any_goals (first | assumption | wp_step))
            subst hN
            exact h _ _ zS kk
          | _ => exact hr2.elim
    | _ => exact hr.elim
end
end L2
namespace L2
open PySem PySem.Spec PyProof.Rows
section
variable {X : Cx}
theorem call_sorted : CallR X (.builtin "sorted") (fun xs H Q => ∃ p ss, xs = [.ref p] ∧ SqL X.K H p (ss.map V.str) ∧ ss.length < 64 ∧ ∀ l ss', H l = none → ss'.Perm ss → sortedS ss' = true → Q (.ref l) (upd H l (.lst (ss'.map V.str)))) := by
  intro pins s σ H xs us Q I r h
  obtain ⟨p, ss, rfl, hq, h64, q⟩ := h
  obtain ⟨u, rfl, ru⟩ := vals1 r
  cases ru
  obtain ⟨its, rv, pl, _⟩ := I.list hq
  have hS := strs_of rv
  have hlen : its.length = ss.length := by rw [← rv.length, List.length_map]
  refine sorted_strs pl.isList hS (by omega) fun out ss' h1 h2 h3 => ?_
  obtain ⟨e, he⟩ := sortedAll_at s.heap its out
  have hl : ss'.length = ss.length := h2.length_eq
  have sl0 : sizeLine = 16777216 := sizeLine_eq
  refine ⟨.ref (s.heap.objs.size + 1), _, I.laid (t' := s.toks) (o := .lst (ss'.map V.str)) (fun _ _ => sortedAll_old) (Nat.le_succ _) ⟨by rw [List.length_map]; omega, out.toList, e, ?_, he⟩, rfl, q _ _ (I.hok.fresh (Nat.le_succ _)) h2 h3⟩
  clear he h2 h3 hl
  generalize out.toList = l at h1
  induction h1 with
  | nil => exact .nil
  | cons x t _ ih => exact .cons ⟨t, rfl⟩ ih
theorem fold_ones (c : Nat) : ∀ (n : Nat) (a : Array Nat), (List.replicate n (#[c] : Array Nat)).foldl (· ++ ·) a = a ++ (List.replicate n c).toArray
  | 0, a => by simp
  | n + 1, a => by
    rw [List.replicate_succ, List.foldl_cons, fold_ones c n, List.replicate_succ]
    apply Array.ext'
    simp
theorem op_mulS : OpR X (binaryOp .Mult) (fun x y H Q => ∃ (c : Nat) (n : Int), x = .str ⟨#[c]⟩ ∧ y = .int n ∧ 1 ≤ n ∧ n ≤ 1000 ∧ Q (.str ⟨(List.replicate n.toNat c).toArray⟩) H) := by
  intro pins s σ H x y v u Q I rx ry h
  obtain ⟨c, n, rfl, rfl, h1, h2, q⟩ := h
  obtain ⟨t, rfl⟩ := rx
  obtain ⟨t', rfl⟩ := ry
  have n1 : ¬ n < 1 := by omega
  have l1 : (⟨#[c]⟩ : Str).length = 1 := rfl
  refine PySem.P.mul_str (by rw [decide_eq_false (by omega), decide_eq_false (by omega)]; rfl) (fun _ _ z => ?_) (fun _ _ => ?_) ?_
  · rw [l1] at z
    have : (1 : Int) ≤ (2 ^ 63 - 1) / n := by
      rw [Int.le_ediv_iff_mul_le (by omega)]
      omega
    have z' : ((1 : Nat) : Int) > (2 ^ 63 - 1) / n := z
    omega
  · rw [l1, Nat.one_mul]
    show decide (n.toNat > sizeLine) = false
    rw [decide_eq_false_iff_not, sizeLine_eq]
    omega
  · rw [if_neg n1]
    by_cases e1 : n = 1
    · subst e1
      rw [if_pos (by simp)]
      exact ⟨.str ⟨#[c]⟩, H, I, ⟨t, rfl⟩, q⟩
    · rw [if_neg (by
        intro z
        rw [Bool.or_eq_true] at z
        rcases z with z | z
        · exact e1 (beq_iff_eq.mp z)
        · rw [l1] at z; exact absurd z (by decide)), fold_ones]
      have e2 : (#[] : Array Nat) ++ (List.replicate n.toNat c).toArray = (List.replicate n.toNat c).toArray := by simp
      rw [e2]
      refine ⟨?_, ?_⟩
      · show (List.replicate n.toNat c).toArray.size ≤ sizeLine
        rw [List.size_toArray, List.length_replicate, sizeLine_eq]; omega
      · exact ⟨.str _, H, I.tok _, ⟨_, rfl⟩, q⟩
end
end L2
namespace L2
open PySem PySem.Spec PyProof.Rows
section
variable {prog : Program} {w : World} {A : Around} {E : Value → Shared → Prop} {s : Shared}
theorem places_rev (n : Nat) : Builtin.Slice.slicePlaces ((n : Int) - 1) (-1) (-1) = n := by
  unfold Builtin.Slice.slicePlaces
  rw [if_neg (by decide)]
  show (if (n : Int) - 1 > -1 then ((n : Int) - 1 - -1 - 1) / (- -1) + 1 else 0).toNat = n
  rw [show (- -1 : Int) = 1 by decide, Int.ediv_one]
  split <;> omega
theorem applied_rev {sl : Addr} {t : Tok} {n : Nat} {Q : Int × Int × Nat → Shared → Prop} (hs : s.heap.IsSliceOf sl .none .none (.int (-1) t)) (h : Q ((n : Int) - 1, -1, n) s) : wpAny (model prog w) A (Builtin.Slice.sliceApplied (.ref sl) (pure (n : Int))) Q E s := by
  obtain ⟨o, g, c, d⟩ := hs
  unfold Builtin.Slice.sliceApplied Builtin.Slice.sliceFields
  refine wpAny_bind (wpAny_bind (wpAny_field g d (x := .none) rfl (wpAny_bind (wpAny_field g d (x := .none) rfl (wpAny_bind (wpAny_field g d (x := .int (-1) t) rfl (wpAny_pure ?_)))))))
  refine wpAny_bind (HT.slicePart_ (.int (-1) t) ?_)
  show wpAny _ _ (if ((-1 : Int) == 0) = true then _ else _) _ _ s
  rw [if_neg (by decide)]
  refine wpAny_bind (HT.slicePart_ .none (wpAny_bind (HT.slicePart_ .none (wpAny_bind (wpAny_pure ?_)))))
  show wpAny _ _ (pure ((n : Int) - 1, (-1 : Int), Builtin.Slice.slicePlaces ((n : Int) - 1) (-1) (-1))) _ _ s
  rw [places_rev]
  exact wpAny_pure h
theorem pick_rev (xs : Array Value) : ((List.range xs.size).filterMap fun (m : Nat) => xs[((xs.size : Int) - 1 + (m : Int) * (-1)).toNat]?) = xs.toList.reverse := by
  have e : ∀ m, m < xs.size → xs[((xs.size : Int) - 1 + (m : Int) * (-1)).toNat]? = xs.toList.reverse[m]? := fun m hm => by
    rw [List.getElem?_reverse (by simpa using hm), Array.getElem?_toList, Array.length_toList]
    congr 1
    omega
  have e2 : ((List.range xs.size).filterMap fun (m : Nat) => xs[((xs.size : Int) - 1 + (m : Int) * (-1)).toNat]?) = (List.range xs.toList.reverse.length).filterMap fun m => xs.toList.reverse[m]? := by
    rw [List.length_reverse, Array.length_toList]
    have e3 : ∀ l : List Nat, (∀ m ∈ l, m < xs.size) → (l.filterMap fun (m : Nat) => xs[((xs.size : Int) - 1 + (m : Int) * (-1)).toNat]?) = l.filterMap fun m => xs.toList.reverse[m]? := by
      intro l
      induction l with
      | nil => intro _; rfl
      | cons x l ih =>
        intro h
        rw [List.filterMap_cons, List.filterMap_cons, e x (h x List.mem_cons_self), ih fun m hm => h m (List.mem_cons_of_mem _ hm)]
    exact e3 _ fun m hm => List.mem_range.mp hm
  rw [e2]
  generalize xs.toList.reverse = l
  induction l with
  | nil => rfl
  | cons x l ih =>
    rw [List.length_cons, List.range_succ_eq_map, List.filterMap_cons]
    simp only [List.getElem?_cons_zero]
    rw [List.filterMap_map]
    congr 1
theorem getItem_rev {t sl : Addr} {items : Array Value} {tk : Tok} {Q : Value → Shared → Prop} (ht : IsTup s.heap t items) (hs : s.heap.IsSliceOf sl .none .none (.int (-1) tk))
    (h : Q (.ref s.heap.objs.size) { s with heap := s.heap.push { cls := .type "tuple", data := .seq items.toList.reverse.toArray } }) (hz : items.size ≤ sizeLine) : wpAny (model prog w) A (getItem (.ref t) (.ref sl)) Q E s := by
  have fits : sizeOk (.seq items.toList.reverse.toArray) := by
    show items.toList.reverse.toArray.size ≤ sizeLine
    rw [List.size_toArray, List.length_reverse, Array.length_toList]; exact hz
  obtain ⟨os, g, c, d⟩ := id hs
  have hT : s.TypeIs (.ref sl) "slice" := ⟨os, g, c⟩
  unfold getItem
  try with_reducible refine wpAny_holding ?_
  first | refine wpAny_bind (wpAny_pure ?_) | skip
  refine wpAny_bind (wpAny_sequenceKey ht.typeIs (by decide) (wpAny_bind (wpAny_callSpecial?_slot (name := Str.ofString "__getitem__") ht.typeIs PyProof.Rows.slot_tuple_getitem (wpAny_call_entry PyProof.Rows.slot_tuple_getitem ht.typeIs PyProof.Rows.entry_tuple_getitem ?_ (PyProof.Rows.args_tuple_getitem _ _)))))
  show wpAny _ _ (Builtin.Tuple.tupleItemsOf (.ref t) >>= _) _ _ s
  refine wpAny_bind (PyProof.Rows.tupleItemsOf_ ht (wpAny_bind (wpAny_typeOf hT ?_)))
  rw [if_pos (by decide)]
  refine wpAny_bind (applied_rev hs ?_)
  have no : ¬ (((items.size : Int) - 1 == 0 && (-1 : Int) == 1 && items.size == items.size) = true) := by
    intro q
    rw [Bool.and_eq_true, Bool.and_eq_true] at q
    exact absurd q.1.2 (by decide)
  show wpAny _ _ (if ((items.size : Int) - 1 == 0 && (-1 : Int) == 1 && items.size == items.size) = true then _ else _) _ _ s
  rw [if_neg no, pick_rev]
  first
    | exact wpAny_bind (m := Builtin.Tuple.tupleExact _) (wpAny_newObj_type (wpAny_pure ⟨_, rfl, wpAny_pure h⟩) fits)
    | exact wpAny_bind (m := Builtin.Tuple.tupleExact _) (wpAny_newObj_type (wpAny_bind (wpAny_pure (wpAny_pure ⟨_, rfl, wpAny_pure h⟩))) fits)
    | exact wpAny_bind (wpAny_bind (m := Builtin.Tuple.tupleExact _) (wpAny_newObj_type (wpAny_pure (wpAny_pure ⟨_, rfl, wpAny_pure h⟩)) fits))
    | exact wpAny_bind (wpAny_bind (m := Builtin.Tuple.tupleExact _) (wpAny_newObj_type (wpAny_pure ⟨_, rfl, wpAny_pure h⟩) fits))
end
theorem valsRev : ∀ {xs : List V} {us : List Value}, Vals xs us → Vals xs.reverse us.reverse := by
  intro xs us r
  induction r with
  | nil => exact .nil
  | cons r _ ih =>
    rw [List.reverse_cons, List.reverse_cons]
    exact ih.append (.cons r .nil)
noncomputable def tRev (K : PySem.W.Frag) (te : TE) : TE := fun σ H Q => te σ H fun x H1 => ∃ a xs, x = .ref a ∧ SqT K H1 a xs ∧ ∀ p, H1 p = none → Q (.ref p) (upd H1 p (.tup xs.reverse))
theorem pe_rev {X : Cx} {e : Expr} {te : TE} {k : Nat} {p1 p2 p3 pos : Pos} (he : PE X e te) : PE X (.Subscript e (.Slice none none (some (.UnaryOp .USub (.Constant (.int 1) k p1) p2)) p3) pos) (tRev X.K te) := by
  intro pins s σ H Q I h
  refine Subscript_ (thn (he pins s σ H _ I h) fun v s1 ⟨x, H1, I1, r1, q1⟩ => ?_)
  obtain ⟨a, xs, rfl, hq, q⟩ := q1
  cases (show v = Value.ref a from r1)
  refine wpAny_Slice ?_
  rw [evalPart_none]
  refine wpAny_pure ?_
  refine wpAny_pure ?_
  rw [evalPart_some]
  have pm : PE X (.UnaryOp .USub (.Constant (.int 1) k p1) p2) (tUn _ (tC (.int 1))) := pe_un uNeg pe_int
  refine thn (pm pins s1 σ H1 (fun z H2 => z = .int (-1) ∧ H2 = H1) I1 ⟨rfl, rfl⟩) fun u s2 ⟨z, H2, I2, r2, ez, eH⟩ => ?_
  subst ez
  obtain rfl : H1 = H2 := eH.symm
  obtain ⟨t, rfl⟩ := r2
  obtain ⟨its, rv, ht, hz⟩ := I2.tuple hq
  have hlen : its.toArray.size = xs.length := by rw [List.size_toArray]; exact rv.length.symm
  have I3 : Inv X pins σ H1 { s2 with heap := s2.heap.push { cls := .type "slice", data := .fields #[.none, .none, .int (-1) t] } } := I2.kept (t' := s2.toks) fun b ob q => Heap.get?_push_of_some _ q
  obtain ⟨its, rv, ht, hz⟩ := I3.tuple hq
  show wpAny (model X.prog X.w) X.A (subscriptTail e (.Slice none none (some (.UnaryOp .USub (.Constant (.int 1) k p1) p2)) p3) (.ref a) (.ref s2.heap.objs.size)) (EP X pins σ Q) X.xe { s2 with heap := s2.heap.push { cls := .type "slice", data := .fields #[.none, .none, .int (-1) t] } }
  refine tail_any (ops := [.ref a, .ref s2.heap.objs.size]) ht.typeIs PyProof.Rows.slot_tuple_getitem.lookup (getItem_rev ht (Heap.IsSliceOf.new ..) ?_ (by rw [List.size_toArray, ← rv.length]; exact hz)) (by with_unfolding_all rfl)
  refine ⟨.ref (s2.heap.push { cls := .type "slice", data := .fields #[.none, .none, .int (-1) t] }).objs.size, _, I3.laid (t' := s2.toks) (o := .tup xs.reverse) (fun b ob q => Heap.get?_push_of_some _ q) (Nat.le_refl _) ?_, rfl, q _ (I3.hok.fresh (Nat.le_refl _))⟩
  exact ⟨by rw [List.length_reverse]; exact hz, _, valsRev rv, IsTup.new _ _⟩
end L2
namespace L2
open PySem PySem.Spec PyProof.Rows
section
variable {X : Cx}
noncomputable def setφ (P : Program) (w : World) (p : Addr) (ks : List Key) : Heap → Prop := fun h => h.SetOf (mixKind P w) p (amK (metI ks ks.length)) (metI ks ks.length).length
theorem keys_is : ∀ {ks : List Key} {us : List Value}, Vals (ks.map kV) us → ∀ (i : Nat) (v : Value), us[i]? = some v → ∃ k, ks[i]? = some k ∧ (mixKind X.prog X.w).is k v = true ∧ v.scannable = true := by
  intro ks us r i v e
  obtain ⟨k, ek⟩ : ∃ k, ks[i]? = some k := by
    have hl := r.length
    rw [List.length_map] at hl
    have : i < us.length := by
      rcases Nat.lt_or_ge i us.length with z | z
      · exact z
      · rw [List.getElem?_eq_none z] at e; cases e
    exact ⟨ks[i], List.getElem?_eq_getElem (by omega)⟩
  obtain ⟨u, eu, ru⟩ := r.get (i := i) (x := kV k) (by rw [List.getElem?_map, ek]; rfl)
  rw [e] at eu
  cases eu
  refine ⟨k, ek, kV_is ru, ?_⟩
  cases k with
  | inl j => obtain ⟨t, rfl⟩ := (show ∃ t, v = Value.int j t from ru); rfl
  | inr x => obtain ⟨t, rfl⟩ := (show ∃ t, v = Value.str x t from ru); rfl
theorem call_set (hc : X.calm = true) : CallR X (.type "set") (fun xs H Q => ∃ p ks, xs = [.ref p] ∧ SqL X.K H p (ks.map kV) ∧ ks.length < 4000 ∧ ∀ l, H l = none → Q (.ref l) (upd H l (.ext (setφ X.prog X.w l ks)))) := by
  intro pins s σ H xs us Q I r h
  obtain ⟨p, ks, rfl, hq, h40, q⟩ := h
  obtain ⟨u, rfl, ru⟩ := vals1 r
  cases ru
  obtain ⟨its, rv, pl, _⟩ := I.list hq
  have hlen : its.length = ks.length := by rw [← rv.length, List.length_map]
  refine setCall (I.ok.hd hc) pl.isList (by rw [List.size_toArray]; exact hlen) (fun i v e => keys_is (X := X) rv i v (by simpa using e)) (by unfold scanBound; omega) fun h' tk zS kk => ?_
  refine ⟨.ref s.heap.objs.size, _, I.laid (t' := tk) (o := .ext (setφ X.prog X.w s.heap.objs.size ks)) kk (Nat.le_refl _) ⟨zS, ?_, ?_⟩, rfl, q _ (I.hok.fresh (Nat.le_refl _))⟩
  · obtain ⟨o, _, _, _, e, _⟩ := zS
    exact ⟨o, e⟩
  · intro h1 h2 z k
    obtain ⟨o, es, ep, t, e, rest⟩ := z
    exact ⟨o, es, ep, t, k o e, rest⟩
theorem call_lenS : CallR X (.builtin "len") (fun xs H Q => ∃ p ks, xs = [.ref p] ∧ H p = some (.ext (setφ X.prog X.w p ks)) ∧ Q (.int (metI ks ks.length).length) H) := by
  intro pins s σ H xs us Q I r h
  obtain ⟨p, ks, rfl, hp, q⟩ := h
  obtain ⟨u, rfl, ru⟩ := vals1 r
  cases ru
  obtain ⟨⟨o, es, ep, t, ho, hex, hd, hel, hmem, hb, hf, hn⟩, _⟩ := (show ObjOk X.prog X.w H s.heap p (.ext (setφ X.prog X.w p ks)) from I.hok p _ hp)
  refine call_len_set ho hex hd hf (by unfold scanBound at hb; omega) ?_
  exact ⟨.int (metI ks ks.length).length, H, I.tok _, ⟨_, by rw [hn]⟩, q⟩
theorem mt_update : MtM X "dict.update" (fun x xs H Q => ∃ a b kvs more, x = .ref a ∧ xs = [.ref b] ∧ a ≠ b ∧ H a = some (.dK kvs) ∧ H b = some (.dK more) ∧ kvs.length + more.length ≤ sizeLine ∧ Q .non (upd H a (.dK (mergeK kvs more)))) := by
  intro pins s σ H x xs v us Q I rx rs h
  obtain ⟨a, b, kvs, more, rfl, rfl, ne, ha, hb, hz, q⟩ := h
  cases (show v = Value.ref a from rx)
  obtain ⟨u, rfl, ru⟩ := vals1 rs
  cases ru
  obtain ⟨z1, d1, vs1, rel1, dd1⟩ := dk_of I.hok ha
  obtain ⟨z2, d2, vs2, rel2, dd2⟩ := dk_of I.hok hb
  refine call_meetsIn PySem.F.slot_dict_update dd1.typeIs PySem.F.entry_dict_update (PySem.F.args_dict_update_2 _ _) (meets_dict_update (mixKind X.prog X.w) a b ne d2) ⟨vs1, vs2, dd1, dd2, by rw [← rel1.length, ← rel2.length]; exact hz, fun h' m1 m2 sb => ?_⟩
  have he : ∃ q, h'.get? a = some q := let ⟨q, _, _, hq, _⟩ := m1; ⟨q, hq⟩
  have hl : (mergeK kvs more).length ≤ sizeLine := by
    refine Nat.le_trans ?_ hz
    clear hz q rel2 dd2 m1 m2 hb z2 ha rel1 dd1 z1
    induction more generalizing kvs with
    | nil => exact Nat.le_refl _
    | cons p r ih =>
      have h1 := ih (kvs := putK kvs p.1 p.2)
      have h2 := length_putK kvs p.1 p.2
      show (mergeK (putK kvs p.1 p.2) r).length ≤ _
      rw [List.length_cons]
      omega
  exact ⟨.non, _, d_write I (by rw [ha]; exact True.intro) sb he (dk_new hl d1 (rel2.merge rel1) m1), rfl, q⟩
end
section
variable {prog : Program} {w : World} {A : Around} {E : Value → Shared → Prop} {s : Shared}
theorem sorted_by {x : Value} {ss : List Str} {Q : Value → Shared → Prop} (h64 : ss.length < 64)
    (col : ∀ (R : List Value → Shared → Prop), (∀ (h' : Heap) (tk : Nat) (vs : List Value), (∀ b o, s.heap.get? b = some o → h'.get? b = some o) → StrsAre vs ss → R vs { s with heap := h', toks := tk }) → wpAny (model prog w) A.in1 (collect x) R E s)
    (h : ∀ (h1 h' : Heap) (tk : Nat) (out : List Value) (ss' : List Str) (n : Nat), (∀ b o, s.heap.get? b = some o → h1.get? b = some o) → (∀ b o, h1.get? b = some o → h'.get? b = some o) → h'.get? h1.objs.size = some (seqObj "list" out.toArray n) → StrsAre out ss' → ss'.Perm ss → sortedS ss' = true → Q (.ref h1.objs.size) { s with heap := h', toks := tk }) :
    wpAny (model prog w) A (call (.builtin "sorted") [x]) Q E s := by
  refine Calls.call_function_entry kind_sorted plain_sorted entry_sorted (args_sorted1 _) ?_
  unfold Builtin.«sorted»
  refine wpAny_bind (m := checkCount "sorted" 1 1 _) (wpAny_pure ?_)
  refine wpAny_bind (col _ fun h' tk vs kk hS => ?_)
  have hl : vs.length = ss.length := by rw [← hS.strs, List.length_map]
  have sl0 : sizeLine = 16777216 := sizeLine_eq
  refine wpAny_bind (wpAny_newList ?_ (by omega))
  have g0 : (h'.push (seqObj "list" vs.toArray 0)).get? h'.objs.size = some (seqObj "list" vs.toArray 0) := Heap.get?_push_size _ rfl
  refine wpAny_bind (wpAny_holding (wpAny_call_entry slot_list_sort (s := { s with heap := h'.push (seqObj "list" vs.toArray 0), toks := tk }) ⟨_, g0, rfl⟩ entry_list_sort
    (list_sort_treeK (s := { s with heap := h'.push (seqObj "list" vs.toArray 0), toks := tk }) strKind_oneLt g0 hS.keysOf (fun v₁ v₂ rest e => keyKind_strs (by rw [← e]; exact hS)) (by omega) fun st' p1 p2 => ⟨_, rfl, ?_⟩) (args_list_sort _)))
  obtain ⟨ss', q1, q2, q3⟩ := sorted_out_str hS p1 p2
  obtain ⟨n, hn⟩ := sortedHeap_at (vs := vs) (out := (arrOf st').map (·.2)) g0
  refine wpAny_pure ⟨_, rfl, h h' _ tk ((arrOf st').map (·.2)).toList ss' n kk (fun b o e1 => ?_) (by rw [Array.toArray_toList]; exact hn) q1 q2 q3⟩
  have lt : b < h'.objs.size := Heap.lt_size e1
  show (sortedHeap (h'.push (seqObj "list" vs.toArray 0)) h'.objs.size vs _).get? b = some o
  rw [sortedHeap_old (Nat.ne_of_lt lt) (by rw [Heap.size_push]; exact Nat.lt_succ_of_lt lt)]
  exact Heap.get?_push_of_some _ e1
end
section
variable {X : Cx}
theorem strs_to : ∀ {ss : List Str} {us : List Value}, StrsAre us ss → Vals (ss.map V.str) us := by
  intro ss us h
  induction h with
  | nil => exact .nil
  | cons x t _ ih => exact .cons ⟨t, rfl⟩ ih
theorem strs_at : ∀ {ss : List Str} {us : List Value}, us.length = ss.length → (∀ (i : Nat) (v : Value), us[i]? = some v → ∃ x t, ss[i]? = some x ∧ v = .str x t) → StrsAre us ss
  | [], [], _, _ => .nil
  | x :: ss, u :: us, hl, h => by
    obtain ⟨y, t, e, rfl⟩ := h 0 u rfl
    cases (show some x = some y from e)
    exact .cons x t (strs_at (by simpa using hl) fun i v e => h (i + 1) v (by simpa using e))
  | [], _ :: _, hl, _ => by simp at hl
  | _ :: _, [], hl, _ => by simp at hl
theorem call_sortedD (hc : X.calm = true) : CallR X (.builtin "sorted") (fun xs H Q => ∃ p kvs ss, xs = [.ref p] ∧ H p = some (.dK kvs) ∧ kvs.map (·.1) = ss.map Sum.inr ∧ ss.length < 64 ∧ ∀ l ss', H l = none → ss'.Perm ss → sortedS ss' = true → Q (.ref l) (upd H l (.lst (ss'.map V.str)))) := by
  intro pins s σ H xs us Q I r h
  obtain ⟨p, kvs, ss, rfl, hp, hk, h64, q⟩ := h
  obtain ⟨u, rfl, ru⟩ := vals1 r
  cases ru
  obtain ⟨z, d, vs, rel, dd⟩ := dk_of I.hok hp
  have hl : kvs.length = ss.length := by have := congrArg List.length hk; simpa using this
  have hvl : vs.length = ss.length := by rw [← rel.length]; exact hl
  have sl0 : sizeLine = 16777216 := sizeLine_eq
  obtain ⟨ep, hat⟩ := dd.dictAt
  refine sorted_by h64 (fun R hR => PySem.W.kdu_collect (A := X.A.in1) (PySem.W.kdl_dict (knd := mixKind X.prog X.w) (kvs := vs) (ep := ep) d) (by simpa using I.ok.hd hc) hat (by omega) fun h' tk acc kk hacc => hR h' tk acc.toList kk ?_) fun h1 h' tk out ss' n k1 k2 ho hS hp2 hs => ?_
  · refine strs_at (by rw [Array.length_toList]; exact hacc.1.trans hvl) fun i v e => ?_
    obtain ⟨k, x, ek, hk'⟩ := hacc.2 i v (by simpa using e)
    have ek2 : (kvs.map (·.1))[i]? = some k := by
      rw [rel.keys, List.getElem?_map, ek]; rfl
    rw [hk, List.getElem?_map] at ek2
    cases es : ss[i]? with
    | none => rw [es] at ek2; cases ek2
    | some y =>
      rw [es] at ek2
      cases (show some (Sum.inr y : Key) = some k from ek2)
      rcases keyIs_shape (show keyIs (Sum.inr y) v = true from hk') with ⟨j, t, e1, e2⟩ | ⟨x', t, e1, e2⟩
      · cases e1
      · cases e1
        exact ⟨y, t, rfl, e2⟩
  · have I1 : Inv X pins σ H { s with heap := h1, toks := tk } := I.kept k1
    have hl' : ss'.length = ss.length := hp2.length_eq
    exact ⟨.ref h1.objs.size, _, I1.laid (t' := tk) (o := .lst (ss'.map V.str)) k2 (Nat.le_refl _) ⟨by rw [List.length_map]; omega, out, n, strs_to hS, ho⟩, rfl, q _ _ (I1.hok.fresh (Nat.le_refl _)) hp2 hs⟩
end
end L2
namespace L2
open PySem PySem.Spec PyProof.Rows
noncomputable def RawD (h : Heap) (d : Addr) (es : Array DictEntry) (ep : Nat) : Prop := ∃ o, h.get? d = some o ∧ o.ExactDict ∧ o.data = .dict es ep
section
variable {prog : Program} {w : World} {A : Around} {E : Value → Shared → Prop} {s : Shared}
theorem RawD.typ {d : Addr} {es : Array DictEntry} {ep : Nat} (R : RawD s.heap d es ep) : s.TypeIs (.ref d) "dict" := let ⟨o, e, x, _⟩ := R; ⟨o, e, x.1⟩
theorem rawIter {d : Addr} {es : Array DictEntry} {ep : Nat} {Q : Value → Shared → Prop} (nS : (d == sysModules) = false) (R : RawD s.heap d es ep)
    (q : Q (.ref s.heap.objs.size) { s with heap := s.heap.push { cls := .type "dict_keyiterator", data := .fields #[.ref d, .int 0 0, .int es.size 0, .int ep 0] } }) : wpAny (model prog w) A (pyIter (.ref d)) Q E s := by
  have T := R.typ
  obtain ⟨o, e, _, dat⟩ := R
  refine wpAny_pyIter_slot T PySem.F.slot_dict_iter (wpAny_call_entry PySem.F.slot_dict_iter T PySem.F.entry_dict_iter ?_ (PySem.F.args_dict_iter_1 _))
  unfold Builtin.«dict.__iter__»
  refine wpAny_bind ?_
  unfold Builtin.Dict.dictSlotNone
  refine wpAny_bind (wpAny_notOrdered_dict T ?_)
  show wpAny _ _ (pure (Value.ref d)) _ _ s
  refine wpAny_pure ?_
  show wpAny _ _ (Builtin.Dict.showsAll d >>= _) _ _ s
  unfold Builtin.Dict.showsAll
  rw [if_neg (by rw [nS]; exact Bool.false_ne_true)]
  refine wpAny_bind (wpAny_pure (wpAny_bind (wpAny_dictEntries e dat (wpAny_bind (wpAny_dictEpoch e dat ?_)))))
  refine wpAny_bind (wpAny_newObj_type (wpAny_pure ⟨_, rfl, "dict_keyiterator", _, ⟨_, Heap.get?_push_size _ rfl, rfl⟩, PySem.F.slot_dict_keyiterator_next.lookup, ?_⟩))
  simpa [rawInt] using q
theorem rawItem {it d : Addr} {i ep : Nat} {es : Array DictEntry} {Q : Option Value → Shared → Prop} (K : s.heap.IsKeyIter it d i es.size ep) (R : RawD s.heap d es ep) (lt : i < es.size)
    (q : ∀ h', h'.IsKeyIter it d (i + 1) es.size ep → Heap.SameBut it s.heap h' → Q (some es[i].key) { s with heap := h' }) : wpAny (model prog w) A (pyNext (.ref it)) Q E s := by
  obtain ⟨o, e, c, dt⟩ := id K
  obtain ⟨od, e2, _, dd⟩ := R
  unfold pyNext
  refine wpAny_bind (wpAny_attempt (wpAny_callSpecial?_slot (name := Str.ofString "__next__") K.typeIs PySem.F.slot_dict_keyiterator_next (wpAny_call_entry PySem.F.slot_dict_keyiterator_next K.typeIs PySem.F.entry_dict_keyiterator_next ?_ (PySem.F.args_dict_keyiterator_next_1 _))))
  refine wpAny_bind (wpAny_pure (wpAny_bind (wpAny_bind ?_)))
  first | refine wpAny_bind (wpAny_typeNameOfWhole_keyiter K.typeIs (wpAny_pure ?_)) | refine wpAny_bind (wpAny_typeNameOf_keyiter K.typeIs (wpAny_pure ?_))
  refine wpAny_bind (wpAny_fieldsOf e dt ?_)
  have own : Builtin.Dict_items.ownsTuple "dict_keyiterator" = false := by decide
  simp only [own, Bool.false_eq_true, if_false]
  show wpAny _ _ (if (Value.ref d == Value.none) = true then _ else _) _ _ s
  rw [if_neg (show ¬ ((Value.ref d == Value.none) = true) from Bool.false_ne_true)]
  refine wpAny_bind (wpAny_pure (wpAny_bind (wpAny_dictEntries e2 dd ?_)))
  rw [if_neg (by simp)]
  refine wpAny_bind (wpAny_pure (wpAny_bind (wpAny_dictEpoch e2 dd ?_)))
  rw [if_neg (by simp)]
  refine wpAny_pure ?_
  simp only [show ¬ ((i : Int) < 0) from by omega, if_false, Int.toNat_natCast, Array.getElem?_eq_getElem lt]
  refine wpAny_bind ?_
  first | refine wpAny_bind (wpAny_typeNameOfWhole_keyiter K.typeIs (wpAny_pure ?_)) | refine wpAny_bind (wpAny_typeNameOf_keyiter K.typeIs (wpAny_pure ?_))
  refine wpAny_bind (wpAny_isOneOf_keyiter K.typeIs ?_)
  show wpAny _ _ (setField (.ref it) 1 (rawInt ((i : Int) + 1)) >>= _) _ _ s
  refine wpAny_bind (wpAny_setField e dt (by simp) ?_)
  have K' : (s.heap.update it (Obj.mapFields (·.setIfInBounds 1 (rawInt ((i : Int) + 1))))).IsKeyIter it d (i + 1) es.size ep := ⟨_, Heap.get?_update_self _ e (Obj.isFreed_of_fields (Obj.data_mapFields dt _)), (Obj.cls_mapFields ..).trans c, by rw [Obj.data_mapFields dt]; simp [rawInt]⟩
  refine wpAny_bind (wpAny_holding (wpAny_bind (wpAny_isOneOf_keyiter (s := { s with heap := s.heap.update it (Obj.mapFields (·.setIfInBounds 1 (rawInt ((i : Int) + 1)))) }) K'.typeIs ?_)))
  show wpAny _ _ (pure es[i].key) _ _ _
  exact wpAny_pure (wpAny_pure ⟨_, rfl, wpAny_pure (q _ K' (Heap.SameBut.update ..))⟩)
theorem rawEnd {it d : Addr} {ep : Nat} {es : Array DictEntry} {Q : Option Value → Shared → Prop} (hh : A.handled = none) (K : s.heap.IsKeyIter it d es.size es.size ep) (R : RawD s.heap d es ep) (q : ∀ h', Heap.ExtBut it s.heap h' → Q none { s with heap := h' }) :
    wpAny (model prog w) A (pyNext (.ref it)) Q E s := by
  obtain ⟨o, e, c, dt⟩ := id K
  obtain ⟨od, e2, _, dd⟩ := R
  unfold pyNext
  refine wpAny_bind (wpAny_attempt (wpAny_callSpecial?_slot (name := Str.ofString "__next__") K.typeIs PySem.F.slot_dict_keyiterator_next (wpAny_call_entry PySem.F.slot_dict_keyiterator_next K.typeIs PySem.F.entry_dict_keyiterator_next ?_ (PySem.F.args_dict_keyiterator_next_1 _))))
  refine wpAny_bind (wpAny_pure (wpAny_bind (wpAny_bind ?_)))
  first | refine wpAny_bind (wpAny_typeNameOfWhole_keyiter K.typeIs (wpAny_pure ?_)) | refine wpAny_bind (wpAny_typeNameOf_keyiter K.typeIs (wpAny_pure ?_))
  refine wpAny_bind (wpAny_fieldsOf e dt ?_)
  have own : Builtin.Dict_items.ownsTuple "dict_keyiterator" = false := by decide
  simp only [own, Bool.false_eq_true, if_false]
  show wpAny _ _ (if (Value.ref d == Value.none) = true then _ else _) _ _ s
  rw [if_neg (show ¬ ((Value.ref d == Value.none) = true) from Bool.false_ne_true)]
  refine wpAny_bind (wpAny_pure (wpAny_bind (wpAny_dictEntries e2 dd ?_)))
  rw [if_neg (by simp)]
  refine wpAny_bind (wpAny_pure (wpAny_bind (wpAny_dictEpoch e2 dd ?_)))
  rw [if_neg (by simp)]
  refine wpAny_pure ?_
  simp only [show ¬ ((es.size : Int) < 0) from by omega, if_false, Int.toNat_natCast, Array.getElem?_eq_none (Nat.le_refl es.size)]
  refine wpAny_bind ?_
  first | refine wpAny_bind (wpAny_typeNameOfWhole_keyiter K.typeIs (wpAny_pure ?_)) | refine wpAny_bind (wpAny_typeNameOf_keyiter K.typeIs (wpAny_pure ?_))
  show wpAny _ _ (setField (.ref it) 0 .none >>= _) _ _ s
  refine wpAny_bind (wpAny_setField e dt (by simp) ?_)
  show wpAny _ _ (newExc (.type "StopIteration") [] >>= _) _ _ _
  refine wpAny_bind ?_
  simp only [newExc, newTuple]
  refine wpAny_bind (wpAny_newObj_type ?_ (by size_fits))
  refine wpAny_bind (m := firstArgMember _ _) (wpAny_of_eq (a := Value.none) (by first | rfl | (simp only [firstArgMember]; rfl)) (wpAny_newObj_type ?_ (by size_fits)))
  simp only [raiseNew]
  refine wpAny_bind (wpAny_handled ?_)
  rw [show A.in1.handled = none from hh]
  refine (wpAny_bind (wpAny_pure (wpAny_throw ?_)))
  refine (wpAny_bind (wpAny_isInstance (T := "StopIteration") (b := true) ⟨_, Heap.get?_push_size _ rfl, rfl⟩ isSubtype_stop ?_))
  exact wpAny_pure (q _ (((Heap.SameBut.update ..).extBut.push _).push _))
theorem rawSrc {d : Addr} {es : Array DictEntry} {ep : Nat} (nS : (d == sysModules) = false) : PySem.W.KdlSrc prog w "dict" d d es.size (fun i v => ∃ e, es[i]? = some e ∧ v = e.key) (fun h => RawD h d es ep) where
  type := fun _ R => R.typ
  there := fun _ R => let ⟨_, e, _⟩ := R; ⟨Heap.lt_size e, Heap.lt_size e⟩
  keep := fun _ _ R hk => let ⟨o, e, r⟩ := R; ⟨o, hk d (.inl rfl) o e, r⟩
  notList := by decide
  notTuple := by decide
  hint := fun _ _ _ _ R q => PySem.W.kdl_hint_dict R.typ q
  iter := fun A s hh R => by
    have lt : d < s.heap.objs.size := let ⟨_, e, _⟩ := R; Heap.lt_size e
    have ne : d ≠ s.heap.objs.size := Nat.ne_of_lt lt
    refine ⟨_, fun i h => h.IsKeyIter s.heap.objs.size d i es.size ep ∧ RawD h d es ep, (fun _ _ q => rawIter nS R q), ⟨fun b hb => by simp at hb; simp [hb], fun i h h' st hk => ?_, fun i s' Q E hi st q => ?_, fun s' Q E st q => ?_, fun i s' Q E st q => wpAny_pyIter_keyiter st.1 q⟩, ⟨⟨_, Heap.get?_push_size _ rfl, rfl, rfl⟩, let ⟨o, e, r⟩ := R; ⟨o, Heap.get?_push_of_some _ e, r⟩⟩⟩
    · obtain ⟨⟨o, e, r⟩, ⟨o2, e2, r2⟩⟩ := st
      exact ⟨⟨o, hk _ (by simp) o e, r⟩, ⟨o2, hk d (by simp) o2 e2, r2⟩⟩
    · refine rawItem st.1 st.2 hi fun h' K' sb => ?_
      exact q _ h' s'.toks ⟨es[i], by simp [hi], rfl⟩ ⟨K', let ⟨o, e, r⟩ := st.2; ⟨o, sb.extBut d o ne e, r⟩⟩ fun b o hb e => sb.extBut b o (fun z => hb (by simp [z])) e
    · exact rawEnd hh st.1 st.2 fun h' he => q h' s'.toks fun b o hb e => he b o (fun z => hb (by simp [z])) e
end
end L2
namespace L2
open PySem PySem.Spec PyProof.Rows PySem.W
noncomputable def runOk {α : Type} (n : Nat) (lt : Nat → Nat → Bool) : KasT α → Option α
  | .ret a => some a
  | .ask i j k => if i < n ∧ j < n then runOk n lt (k (lt i j)) else none
theorem runOk_wp {α : Type} {n : Nat} {lt : Nat → Nat → Bool} {ask : Nat → Nat → (Bool → Shared → Prop) → Shared → Prop} {s : Shared} (ha : ∀ i j C, i < n → j < n → C (lt i j) s → ask i j C s) : ∀ (t : KasT α) (a : α) (Q : α → Shared → Prop), runOk n lt t = some a → Q a s → t.kasWp ask Q s
  | .ret b, a, Q, h, q => by
    cases (show some b = some a from h)
    exact q
  | .ask i j k, a, Q, h, q => by
    have h' : (if i < n ∧ j < n then runOk n lt (k (lt i j)) else none) = some a := h
    by_cases c : i < n ∧ j < n
    · rw [if_pos c] at h'
      exact ha i j _ c.1 c.2 (runOk_wp ha (k (lt i j)) a Q h' q)
    · rw [if_neg c] at h'; cases h'
theorem runOk_eq {α : Type} {n : Nat} {lt lt' : Nat → Nat → Bool} (h : ∀ i j, i < n → j < n → lt i j = lt' i j) : ∀ t : KasT α, runOk n lt t = runOk n lt' t
  | .ret _ => rfl
  | .ask i j k => by
    show (if i < n ∧ j < n then runOk n lt (k (lt i j)) else none) = if i < n ∧ j < n then runOk n lt' (k (lt' i j)) else none
    by_cases c : i < n ∧ j < n
    · rw [if_pos c, if_pos c, h i j c.1 c.2]; exact runOk_eq h _
    · rw [if_neg c, if_neg c]
noncomputable def rk (r : List Nat) (i j : Nat) : Bool := decide (r.getD i 0 < r.getD j 0)
noncomputable def checkP (n : Nat) (r : List Nat) : Bool := match runOk n (rk r) (kas_sort n) with
  | some p => (p.toList.map fun i => r.getD i 0) == List.range n && p.toList.all fun i => decide (i < n)
  | none => false
noncomputable def insAll (x : Nat) : List Nat → List (List Nat)
  | [] => [[x]]
  | y :: l => (x :: y :: l) :: (insAll x l).map (y :: ·)
noncomputable def perms : List Nat → List (List Nat)
  | [] => [[]]
  | x :: l => (perms l).flatMap (insAll x)
theorem mem_insAll (x : Nat) : ∀ (a b : List Nat), a ++ x :: b ∈ insAll x (a ++ b)
  | [], [] => List.mem_cons_self
  | [], _ :: _ => List.mem_cons_self
  | y :: a, b => List.mem_cons_of_mem _ (List.mem_map.mpr ⟨_, mem_insAll x a b, rfl⟩)
theorem mem_perms : ∀ (l l' : List Nat), l'.Perm l → l' ∈ perms l
  | [], l', h => by rw [List.Perm.eq_nil h]; exact List.mem_cons_self
  | x :: l, l', h => by
    obtain ⟨a, b, rfl⟩ := List.append_of_mem (h.mem_iff.mpr List.mem_cons_self)
    have h2 : (a ++ b).Perm l := (List.perm_middle.symm.trans h).cons_inv
    exact List.mem_flatMap.mpr ⟨a ++ b, mem_perms l _ h2, mem_insAll x a b⟩
theorem check6 : ((List.range 7).all fun n => n < 2 || (perms (List.range n)).all (checkP n)) = true := by decide +kernel
theorem check_of {n : Nat} {r : List Nat} (h2 : 2 ≤ n) (h6 : n ≤ 6) (hr : r.Perm (List.range n)) : checkP n r = true := by
  have h := List.all_eq_true.mp check6 n (List.mem_range.mpr (by omega))
  rw [Bool.or_eq_true] at h
  rcases h with h | h
  · have := of_decide_eq_true h; omega
  · exact List.all_eq_true.mp h r (mem_perms _ _ hr)
structure Strict {κ : Type} (lt : κ → κ → Bool) : Prop where
  irr : ∀ a, lt a a = false
  trans : ∀ a b c, lt a b = true → lt b c = true → lt a c = true
  tot : ∀ a b, a ≠ b → lt a b = true ∨ lt b a = true
section
variable {κ : Type} {lt : κ → κ → Bool} (S : Strict lt)
include S
noncomputable def rankOf (lt : κ → κ → Bool) (ks : List κ) (k : κ) : Nat := ks.countP fun k' => lt k' k
omit S in
theorem countP_lt {p q : κ → Bool} {ks : List κ} (h : ∀ x ∈ ks, p x = true → q x = true) {z : κ} (hz : z ∈ ks) (h1 : p z = false) (h2 : q z = true) : ks.countP p < ks.countP q := by
  induction ks with
  | nil => cases hz
  | cons x l ih =>
    have hl : l.countP p ≤ l.countP q := List.countP_mono_left fun y hy => h y (List.mem_cons_of_mem _ hy)
    rcases List.mem_cons.mp hz with e | e
    · subst e
      rw [List.countP_cons, List.countP_cons, h1, h2]
      simp; omega
    · have hlt := ih (fun y hy => h y (List.mem_cons_of_mem _ hy)) e
      rw [List.countP_cons, List.countP_cons]
      cases hp : p x with
      | false => simp; omega
      | true => rw [h x List.mem_cons_self hp]; simp; omega
theorem rank_lt {ks : List κ} {a b : κ} (ha : a ∈ ks) (h : lt a b = true) : rankOf lt ks a < rankOf lt ks b :=
  countP_lt (fun x _ hx => S.trans _ _ _ hx h) ha (S.irr a) h
theorem rank_iff {ks : List κ} {a b : κ} (ha : a ∈ ks) (hb : b ∈ ks) : decide (rankOf lt ks a < rankOf lt ks b) = lt a b := by
  cases h : lt a b with
  | true => exact decide_eq_true (rank_lt S ha h)
  | false =>
    refine decide_eq_false fun z => ?_
    rcases Classical.em (a = b) with e | e
    · subst e; omega
    · rcases S.tot a b e with q | q
      · rw [h] at q; cases q
      · have := rank_lt S hb q; omega
theorem rank_bound {ks : List κ} {a : κ} (ha : a ∈ ks) : rankOf lt ks a < ks.length := by
  have h := countP_lt (p := fun k' => lt k' a) (q := fun _ => true) (ks := ks) (fun _ _ _ => rfl) ha (S.irr a) rfl
  rw [List.countP_true] at h
  exact h
theorem ranks_perm {ks : List κ} (hn : ks.Nodup) : (ks.map (rankOf lt ks)).Perm (List.range ks.length) := by
  have nd : (ks.map (rankOf lt ks)).Nodup := by
    rw [List.nodup_iff_pairwise_ne, List.pairwise_map]
    refine List.Pairwise.imp_of_mem (fun {a b} ha hb h => ?_) (List.nodup_iff_pairwise_ne.mp hn)
    intro z
    rcases S.tot a b h with q | q
    · have := rank_lt S ha q; omega
    · have := rank_lt S hb q; omega
  have sub : (ks.map (rankOf lt ks)) ⊆ List.range ks.length := fun x hx => by
    obtain ⟨k, hk, rfl⟩ := List.mem_map.mp hx
    exact List.mem_range.mpr (rank_bound S hk)
  rw [List.perm_ext_iff_of_nodup nd List.nodup_range]
  intro x
  constructor
  · exact fun h => sub h
  · intro h
    apply Classical.byContradiction
    intro hx
    have h1 : (x :: ks.map (rankOf lt ks)).Nodup := List.nodup_cons.mpr ⟨hx, nd⟩
    have h2 : (x :: ks.map (rankOf lt ks)) ⊆ List.range ks.length := fun y hy => by
      rcases List.mem_cons.mp hy with e | e
      · rw [e]; exact h
      · exact sub e
    have := h1.length_le_of_subset h2
    rw [List.length_cons, List.length_map, List.length_range] at this
    omega
theorem sort_few {ks : List κ} (hn : ks.Nodup) (h2 : 2 ≤ ks.length) (h6 : ks.length ≤ 6) (d : κ) :
    ∃ p : Array Nat, runOk ks.length (fun i j => lt (ks.getD i d) (ks.getD j d)) (kas_sort ks.length) = some p ∧ (p.toList.map fun i => ks.getD i d).Perm ks ∧ (p.toList.map fun i => ks.getD i d).Pairwise (fun a b => lt a b = true) ∧ ∀ i ∈ p.toList, i < ks.length := by
  have hp := ranks_perm S hn
  have hc := check_of h2 h6 hp
  have at' : ∀ i, i < ks.length → (ks.map (rankOf lt ks)).getD i 0 = rankOf lt ks (ks.getD i d) := fun i hi => by
    simp [List.getD, List.getElem?_map, List.getElem?_eq_getElem hi]
  have mem : ∀ i, i < ks.length → ks.getD i d ∈ ks := fun i hi => by
    simp only [List.getD, List.getElem?_eq_getElem hi, Option.getD_some]
    exact List.getElem_mem hi
  have e : runOk ks.length (fun i j => lt (ks.getD i d) (ks.getD j d)) (kas_sort ks.length) = runOk ks.length (rk (ks.map (rankOf lt ks))) (kas_sort ks.length) := runOk_eq (fun i j hi hj => by
    unfold rk
    rw [at' i hi, at' j hj, rank_iff S (mem i hi) (mem j hj)]) _
  unfold checkP at hc
  rw [← e] at hc
  cases hr : runOk ks.length (fun i j => lt (ks.getD i d) (ks.getD j d)) (kas_sort ks.length) with
  | none => rw [hr] at hc; cases hc
  | some p =>
    rw [hr] at hc
    have hc' := Bool.and_eq_true_iff.mp hc
    have h1 : (p.toList.map fun i => (ks.map (rankOf lt ks)).getD i 0) = List.range ks.length := by simpa using hc'.1
    have hb : ∀ i ∈ p.toList, i < ks.length := fun i hi => of_decide_eq_true (List.all_eq_true.mp hc'.2 i hi)
    have h1' : (p.toList.map fun i => rankOf lt ks (ks.getD i d)) = List.range ks.length := by
      rw [← h1]
      exact List.map_congr_left fun i hi => (at' i (hb i hi)).symm
    have pw : (p.toList.map fun i => ks.getD i d).Pairwise (fun a b => lt a b = true) := by
      have h3 : (p.toList.map fun i => rankOf lt ks (ks.getD i d)).Pairwise (· < ·) := by rw [h1']; exact List.pairwise_lt_range
      rw [List.pairwise_map] at h3 ⊢
      refine List.Pairwise.imp_of_mem (fun {a b} ha hb' h => ?_) h3
      rw [← rank_iff S (mem a (hb a ha)) (mem b (hb b hb'))]
      exact decide_eq_true h
    refine ⟨p, rfl, ?_, pw, hb⟩
    have nd : (p.toList.map fun i => ks.getD i d).Nodup := by
      rw [List.nodup_iff_pairwise_ne]
      refine pw.imp fun {a b} h z => ?_
      subst z
      rw [S.irr] at h; cases h
    rw [List.perm_ext_iff_of_nodup nd hn]
    have sub : (p.toList.map fun i => ks.getD i d) ⊆ ks := fun x hx => by
      obtain ⟨i, hi, rfl⟩ := List.mem_map.mp hx
      exact mem i (hb i hi)
    have len : (p.toList.map fun i => ks.getD i d).length = ks.length := by
      have := congrArg List.length h1'
      rw [List.length_map, List.length_range] at this
      rw [List.length_map]; exact this
    intro x
    constructor
    · exact fun h => sub h
    · intro h
      apply Classical.byContradiction
      intro hx
      have q1 : (x :: p.toList.map fun i => ks.getD i d).Nodup := List.nodup_cons.mpr ⟨hx, nd⟩
      have q2 : (x :: p.toList.map fun i => ks.getD i d) ⊆ ks := fun y hy => by
        rcases List.mem_cons.mp hy with e | e
        · rw [e]; exact h
        · exact sub e
      have := q1.length_le_of_subset q2
      rw [List.length_cons, len] at this
      omega
end
end L2
namespace L2
open PySem PySem.Spec PyProof.Rows PySem.W
noncomputable def slt (a b : Str) : Bool := decide (a.cps.toList < b.cps.toList)
theorem str_ext {a b : Str} (h : a.cps.toList = b.cps.toList) : a = b := by
  cases a; cases b
  congr 1
  exact Array.toList_inj.mp h
theorem slt_strict : Strict slt where
  irr := fun a => decide_eq_false (List.lt_irrefl _)
  trans := fun a b c h1 h2 => decide_eq_true (List.lt_trans (of_decide_eq_true h1) (of_decide_eq_true h2))
  tot := fun a b h => by
    rcases Classical.em (a.cps.toList < b.cps.toList) with q | q
    · exact .inl (decide_eq_true q)
    · rcases Classical.em (b.cps.toList < a.cps.toList) with q2 | q2
      · exact .inr (decide_eq_true q2)
      · exact absurd (str_ext (List.le_antisymm q2 q)) h
noncomputable def plt (a b : Str × Str) : Bool := if a.1 = b.1 then (if a.2 = b.2 then false else slt a.2 b.2) else slt a.1 b.1
theorem plt_strict : Strict plt where
  irr := fun a => by unfold plt; simp
  trans := fun a b c h1 h2 => by
    unfold plt at h1 h2 ⊢
    have T := slt_strict.trans
    have R := slt_strict.irr
    by_cases e1 : a.1 = b.1
    · rw [if_pos e1] at h1
      by_cases e2 : b.1 = c.1
      · rw [if_pos e2] at h2
        rw [if_pos (e1.trans e2)]
        by_cases f1 : a.2 = b.2
        · rw [if_pos f1] at h1; cases h1
        · rw [if_neg f1] at h1
          by_cases f2 : b.2 = c.2
          · rw [if_pos f2] at h2; cases h2
          · rw [if_neg f2] at h2
            have h3 := T _ _ _ h1 h2
            rw [if_neg (fun z => by rw [z, R] at h3; cases h3)]
            exact h3
      · rw [if_neg e2] at h2
        rw [if_neg (fun z => e2 (e1.symm.trans z)), e1]
        exact h2
    · rw [if_neg e1] at h1
      by_cases e2 : b.1 = c.1
      · rw [if_neg (fun z => e1 (z.trans e2.symm)), ← e2]
        exact h1
      · rw [if_neg e2] at h2
        have h3 := T _ _ _ h1 h2
        rw [if_neg (fun z => by rw [z, R] at h3; cases h3)]
        exact h3
  tot := fun a b h => by
    unfold plt
    by_cases e : a.1 = b.1
    · have f : a.2 ≠ b.2 := fun z => h (Prod.ext e z)
      rw [if_pos e, if_neg f, if_pos e.symm, if_neg (Ne.symm f)]
      exact slt_strict.tot _ _ f
    · rw [if_neg e, if_neg (Ne.symm e)]
      exact slt_strict.tot _ _ e
noncomputable def PairAt (h : Heap) (a : Addr) (v : Value) (k : Str × Str) : Prop := ∃ b o m t u, v = .ref b ∧ b ≠ a ∧ h.get? b = some o ∧ o.cls = .type "tuple" ∧ o.data = .seq #[.str k.1 t, .str k.2 u] m
inductive PairsAt (h : Heap) (a : Addr) : List Value → List (Str × Str) → Prop
  | nil : PairsAt h a [] []
  | cons {v : Value} {vs : List Value} {k : Str × Str} {ks : List (Str × Str)} : PairAt h a v k → PairsAt h a vs ks → PairsAt h a (v :: vs) (k :: ks)
theorem PairsAt.len {h : Heap} {a : Addr} {vs : List Value} {ks : List (Str × Str)} (p : PairsAt h a vs ks) : vs.length = ks.length := by
  induction p with
  | nil => rfl
  | cons _ _ ih => rw [List.length_cons, List.length_cons, ih]
theorem PairsAt.get {h : Heap} {a : Addr} {vs : List Value} {ks : List (Str × Str)} (p : PairsAt h a vs ks) : ∀ i, i < ks.length → PairAt h a (vs.getD i Value.none) (ks.getD i (default, default)) := by
  induction p with
  | nil => intro i hi; cases hi
  | cons q _ ih =>
    intro i hi
    cases i with
    | zero => exact q
    | succ i => exact ih i (Nat.lt_of_succ_lt_succ hi)
theorem PairsAt.keep {h h' : Heap} {a : Addr} {vs : List Value} {ks : List (Str × Str)} (p : PairsAt h a vs ks) (k : ∀ b o, b ≠ a → h.get? b = some o → h'.get? b = some o) : PairsAt h' a vs ks := by
  induction p with
  | nil => exact .nil
  | cons q _ ih =>
    obtain ⟨b, o, m, t, u, e, n, g, r⟩ := q
    exact .cons ⟨b, o, m, t, u, e, n, k b o n g, r⟩ ih
section
variable {prog : Program} {w : World} {A : Around} {E : Value → Shared → Prop} {s : Shared}
theorem pair_lt {a : Addr} {v v' : Value} {k k' : Str × Str} {Q : Bool → Shared → Prop} (p : PairAt s.heap a v k) (p' : PairAt s.heap a v' k') (q : Q (plt k k') s) : wpAny (model prog w) A (keyLt' (tuples' true) v v') Q E s := by
  obtain ⟨b, o, m, t, u, rfl, _, g, c, d⟩ := p
  obtain ⟨b', o', m', t', u', rfl, _, g', c', d'⟩ := p'
  refine kat_lt g d g' d' ?_
  show KatLex prog w A true (decide (2 < 2)) Q [(.str k.1 t, .str k'.1 t'), (.str k.2 u, .str k'.2 u')] 0 s
  unfold plt at q
  refine kat_cons ((mixKind prog w).eqBool (mixKind_str _ _ _ _) (mixKind_str _ _ _ _) ?_)
  by_cases e : k.1 = k'.1
  · rw [if_pos e] at q
    rw [show decide ((Sum.inr k.1 : Key) = Sum.inr k'.1) = true from decide_eq_true (by rw [e])]
    refine kat_yes (kat_cons ((mixKind prog w).eqBool (mixKind_str _ _ _ _) (mixKind_str _ _ _ _) ?_))
    by_cases f : k.2 = k'.2
    · rw [if_pos f] at q
      rw [show decide ((Sum.inr k.2 : Key) = Sum.inr k'.2) = true from decide_eq_true (by rw [f])]
      exact kat_yes (kat_nil q)
    · rw [if_neg f] at q
      rw [show decide ((Sum.inr k.2 : Key) = Sum.inr k'.2) = false from decide_eq_false (fun z => f (Sum.inr.inj z))]
      refine kat_no ?_
      show wpAny _ A (oneLt' false _ _) Q _ s
      exact kat_one _ _ (PySem.P.lt_str q)
  · rw [if_neg e] at q
    rw [show decide ((Sum.inr k.1 : Key) = Sum.inr k'.1) = false from decide_eq_false (fun z => e (Sum.inr.inj z))]
    refine kat_no ?_
    show wpAny _ A (oneLt' true _ _) Q _ s
    exact oneLt_str q
theorem pair_tups {h : Heap} {a : Addr} {vs : List Value} {ks : List (Str × Str)} (p : PairsAt h a vs ks) : ∃ fs, KatTups h vs fs ∧ fs.length = ks.length ∧ ∀ v ∈ fs, ∃ x t, v = Value.str x t := by
  induction p with
  | nil => exact ⟨[], .nil, rfl, fun v h => by cases h⟩
  | cons q _ ih =>
    obtain ⟨fs, h1, h2, h3⟩ := ih
    obtain ⟨b, o, m, t, u, rfl, _, g, c, d⟩ := q
    refine ⟨.str _ t :: fs, .cons g c d (by rfl) h1, by rw [List.length_cons, List.length_cons, h2], fun v hv => ?_⟩
    rcases List.mem_cons.mp hv with e | e
    · exact ⟨_, _, e⟩
    · exact h3 v e
theorem pair_sort {a : Addr} {vs : List Value} {ks : List (Str × Str)} {n : Nat} {P : Fin → Shared → Prop} (ho : s.heap.get? a = some (seqObj "list" vs.toArray n)) (hp : PairsAt s.heap a vs ks) (hn : ks.Nodup) (h6 : ks.length ≤ 6)
    (h : ∀ (l : List Nat), (∀ i ∈ l, i < ks.length) → (l.map fun i => ks.getD i (default, default)).Perm ks → (l.map fun i => ks.getD i (default, default)).Pairwise (fun x y => plt x y = true) → P (.done (.ret .none)) { s with heap := sortedHeap s.heap a vs (l.map fun i => vs.getD i Value.none).toArray }) :
    wpAny (model prog w) A (Builtin.«list.sort» ⟨[.ref a], []⟩) P E s := by
  have sl0 : sizeLine = 16777216 := sizeLine_eq
  have len := hp.len
  rw [list_sort_plain]
  have la : a < s.heap.objs.size := Heap.lt_size ho
  refine wpAny_bind (listItems_at ho rfl (wpAny_bind (listUpdate_at ho rfl ?_ (by rw [List.size_toArray]; omega) (Nat.zero_le _))))
  obtain ⟨e1, g1⟩ : ∃ e1, (s.heap.update a (Obj.mapSeq fun _ => #[])).get? a = some (seqObj "list" #[] e1) := ⟨_, get?_update_seq ho (fun _ => #[])⟩
  refine wpAny_bind (seqEpoch_at g1 rfl (wpAny_bind (wpAny_newTuple ?_ (by simp; omega))))
  refine wpAny_bind (wpAny_newList ?_ (Nat.zero_le _))
  refine wpAny_holding ?_
  have g6 : (((s.heap.update a (Obj.mapSeq fun _ => #[])).push (seqObj "tuple" vs.toArray 0)).push (seqObj "list" #[] 0)).get? a = some (seqObj "list" #[] e1) := Heap.get?_push_of_some _ (Heap.get?_push_of_some _ g1)
  have kk : ∀ b o, b ≠ a → s.heap.get? b = some o → (((s.heap.update a (Obj.mapSeq fun _ => #[])).push (seqObj "tuple" vs.toArray 0)).push (seqObj "list" #[] 0)).get? b = some o := fun b o nb e =>
    Heap.get?_push_of_some _ (Heap.get?_push_of_some _ (((Heap.SameBut.update s.heap a _).2 b nb).trans e))
  show wpAny (model prog w) A _ P E { s with heap := ((s.heap.update a (Obj.mapSeq fun _ => #[])).push (seqObj "tuple" vs.toArray 0)).push (seqObj "list" #[] 0) }
  dsimp only
  have sz : vs.toArray.size = vs.length := by simp
  by_cases c2 : vs.toArray.size < 2
  · rw [if_pos c2, if_pos c2]
    refine wpAny_bind (wpAny_pure ?_)
    rw [StateT.run_pure]
    refine wpAny_bind (wpAny_pure ?_)
    dsimp only
    refine wpAny_bind (seqEpoch_at g6 rfl ?_)
    have em : ((vs.toArray.zip vs.toArray).map (·.2)) = vs.toArray := by
      apply Array.toList_inj.mp
      rw [Array.toList_map, Array.toList_zip]
      exact List.map_snd_zip (Nat.le_refl _)
    refine wpAny_bind (listUpdate_at g6 rfl ?_ (Nat.zero_le _) (by show ((vs.toArray.zip vs.toArray).map (·.2)).size ≤ _; rw [em, sz]; omega))
    simp only [bne_self_eq_false, Bool.false_eq_true, if_false]
    refine wpAny_pure ?_
    show P _ { s with heap := sortedHeap s.heap a vs ((vs.toArray.zip vs.toArray).map (·.2)) }
    rw [em]
    have all : ∀ {α : Type} (xs : List α) (d : α), ((List.range xs.length).map fun i => xs.getD i d) = xs := fun xs d => by
      apply List.ext_getElem
      · simp
      · intro i h1 h2
        simp [List.getD, h2]
    have fin := h (List.range ks.length) (fun i hi => List.mem_range.mp hi) (by rw [all]) (by
      rw [all]
      match ks, len with
      | [], _ => exact List.Pairwise.nil
      | [_], _ => exact List.pairwise_singleton _ _
      | _ :: _ :: _, len => rw [sz, len, List.length_cons, List.length_cons] at c2; omega)
    rw [← len, all] at fin
    exact fin
  · rw [if_neg c2, if_neg c2]
    have p6 := hp.keep kk
    obtain ⟨fs, t1, t2, t3⟩ := pair_tups p6
    obtain ⟨p, r1, r2, r3, r4⟩ := sort_few plt_strict hn (by omega) h6 (default, default)
    refine wpAny_bind (kat_kind (T := .type "str") t1 (by omega) (fun v hv => ?_) rfl ?_)
    · obtain ⟨x, t, rfl⟩ := t3 v hv
      exact .now
    · refine wpAny_bind (wpAny_mono (kat_run (ks := vs) (vs := vs) (κ := tuples' true) (Q := fun st' s' => s' = { s with heap := ((s.heap.update a (Obj.mapSeq fun _ => #[])).push (seqObj "tuple" vs.toArray 0)).push (seqObj "list" #[] 0) } ∧ arrOf st' = p.map (kas_item (vs.toArray.zip vs.toArray)) ∧ failedOf st' = none ∧ p.size = vs.length)
        (G := fun p' s' => p' = p ∧ s' = { s with heap := ((s.heap.update a (Obj.mapSeq fun _ => #[])).push (seqObj "tuple" vs.toArray 0)).push (seqObj "list" #[] 0) }) rfl (by omega) (by omega) (fun p' st' s' q1 q2 q3 ⟨q4, q5⟩ => by subst q4; exact ⟨q5, q2, q3, q1⟩)
        (runOk_wp (n := ks.length) (lt := fun i j => plt (ks.getD i (default, default)) (ks.getD j (default, default))) (fun i j C hi hj hC => pair_lt (p6.get i hi) (p6.get j hj) hC) _ p _ (by rw [len]; exact r1) ⟨rfl, rfl⟩)) ?_ fun _ _ e => e)
      rintro ⟨⟨⟩, st'⟩ s' ⟨rfl, har, hf, hsz⟩
      dsimp only
      have em := kat_snds (vs := vs) rfl har
      refine wpAny_bind (seqEpoch_at g6 rfl ?_)
      have psz : p.toList.length = vs.length := by rw [Array.length_toList]; exact hsz
      refine wpAny_bind (listUpdate_at g6 rfl ?_ (Nat.zero_le _) (by rw [em, List.size_toArray, List.length_map, psz]; omega))
      rw [hf]
      simp only [bne_self_eq_false, Bool.false_eq_true, if_false]
      refine wpAny_pure ?_
      show P _ { s with heap := sortedHeap s.heap a vs ((arrOf st').map (·.2)) }
      rw [em]
      exact h p.toList r4 r2 r3
theorem sortedT_by {x : Value} {ks : List (Str × Str)} {T : List Value → Prop} {Q : Value → Shared → Prop} (hn : ks.Nodup) (h6 : ks.length ≤ 6)
    (col : ∀ (R : List Value → Shared → Prop), (∀ (h' : Heap) (tk : Nat) (vs : List Value), (∀ b o, s.heap.get? b = some o → h'.get? b = some o) → PairsAt h' h'.objs.size vs ks → T vs → R vs { s with heap := h', toks := tk }) → wpAny (model prog w) A.in1 (collect x) R E s)
    (h : ∀ (h1 h' : Heap) (tk : Nat) (vs : List Value) (l : List Nat) (n : Nat), (∀ b o, s.heap.get? b = some o → h1.get? b = some o) → (∀ b o, h1.get? b = some o → h'.get? b = some o) → T vs → vs.length = ks.length → h'.get? h1.objs.size = some (seqObj "list" (l.map fun i => vs.getD i Value.none).toArray n) →
      (∀ i ∈ l, i < ks.length) → (l.map fun i => ks.getD i (default, default)).Perm ks → (l.map fun i => ks.getD i (default, default)).Pairwise (fun x y => plt x y = true) → Q (.ref h1.objs.size) { s with heap := h', toks := tk }) :
    wpAny (model prog w) A (call (.builtin "sorted") [x]) Q E s := by
  refine (Calls.call_function_entry kind_sorted plain_sorted entry_sorted (args_sorted1 _) ?_)
  unfold Builtin.«sorted»
  refine (wpAny_bind (m := checkCount "sorted" 1 1 _) (wpAny_pure ?_))
  refine wpAny_bind (col _ fun h' tk vs kk hS hT => ?_)
  have hl := hS.len
  have sl0 : sizeLine = 16777216 := sizeLine_eq
  refine wpAny_bind (wpAny_newList ?_ (by omega))
  have g0 : (h'.push (seqObj "list" vs.toArray 0)).get? h'.objs.size = some (seqObj "list" vs.toArray 0) := Heap.get?_push_size _ rfl
  refine wpAny_bind (wpAny_holding (wpAny_call_entry slot_list_sort (s := { s with heap := h'.push (seqObj "list" vs.toArray 0), toks := tk }) ⟨_, g0, rfl⟩ entry_list_sort
    (pair_sort (s := { s with heap := h'.push (seqObj "list" vs.toArray 0), toks := tk }) g0 (hS.keep fun b o _ e => Heap.get?_push_of_some _ e) hn h6 fun l l1 l2 l3 => ⟨_, rfl, ?_⟩) (args_list_sort _)))
  obtain ⟨n, gn⟩ := sortedHeap_at (vs := vs) (out := (l.map fun i => vs.getD i Value.none).toArray) g0
  refine wpAny_pure ⟨_, rfl, h h' _ tk vs l n kk (fun b o e1 => ?_) hT hl gn l1 l2 l3⟩
  have lt : b < h'.objs.size := Heap.lt_size e1
  show (sortedHeap (h'.push (seqObj "list" vs.toArray 0)) h'.objs.size vs _).get? b = some o
  rw [sortedHeap_old (Nat.ne_of_lt lt) (by rw [Heap.size_push]; exact Nat.lt_succ_of_lt lt)]
  exact Heap.get?_push_of_some _ e1
end
noncomputable def kP (k : Str × Str) : List Key := [Sum.inr k.1, Sum.inr k.2]
theorem kP_inj {a b : Str × Str} (h : kP a = kP b) : a = b := by
  unfold kP at h
  injection h with h1 h2
  injection h2 with h2 _
  exact Prod.ext (Sum.inr.inj h1) (Sum.inr.inj h2)
section
variable {X : Cx}
theorem paired_get {α β : Type} {F : α → β → Prop} : ∀ {l₁ : List α} {l₂ : List β}, Paired F l₁ l₂ → ∀ {i : Nat} {b : β}, l₂[i]? = some b → ∃ a, l₁[i]? = some a ∧ F a b
  | _, _, .nil, i, b, e => by simp at e
  | _, _, .cons h r, i, b, e => by
    cases i with
    | zero => cases (show some _ = some b from e); exact ⟨_, rfl, h⟩
    | succ i => exact paired_get r (by simpa using e)
theorem paired_keys {H : Hp} : ∀ {kvs : List (List Key × V)} {xs : List (List Key × Addr × Value)}, Paired (fun (p : List Key × V) (q : List Key × Addr × Value) => p.1 = q.1 ∧ H q.2.1 = some (.tup (p.1.map kV)) ∧ RelV p.2 q.2.2) kvs xs → kvs.map (·.1) = xs.map (·.1)
  | _, _, .nil => rfl
  | _, _, .cons h r => by rw [List.map_cons, List.map_cons, h.1, paired_keys r]
theorem pairs_of {h : Heap} {a : Addr} : ∀ {vs : List Value} {ks : List (Str × Str)}, vs.length = ks.length → (∀ i, i < ks.length → PairAt h a (vs.getD i Value.none) (ks.getD i (default, default))) → PairsAt h a vs ks
  | [], [], _, _ => .nil
  | v :: vs, k :: ks, hl, f => .cons (f 0 (Nat.succ_pos _)) (pairs_of (by simpa using hl) fun i hi => f (i + 1) (Nat.succ_lt_succ hi))
  | [], _ :: _, hl, _ => by simp at hl
  | _ :: _, [], hl, _ => by simp at hl
theorem call_sortedT (hc : X.calm = true) : CallR X (.builtin "sorted") (fun xs H Q => ∃ (p : Addr) (kvs : List (List Key × V)) (ks : List (Str × Str)), xs = [.ref p] ∧ H p = some (.dT kvs) ∧ kvs.map (·.1) = ks.map kP ∧ ks.length ≤ 6 ∧
    ∀ (l : Addr) (as : List Addr) (ks' : List (Str × Str)), H l = none → ks'.Perm ks → ks'.Pairwise (fun x y => plt x y = true) → as.length = ks'.length → (∀ (i : Nat) (a : Addr) (k : Str × Str), as[i]? = some a → ks'[i]? = some k → H a = some (.tup ((kP k).map kV))) → Q (.ref l) (upd H l (.lst (as.map V.ref)))) := by
  intro pins s σ H xs us Q I r h
  obtain ⟨p, kvs, ks, rfl, hp, hk, h6, q⟩ := h
  obtain ⟨u, rfl, ru⟩ := vals1 r
  cases ru
  obtain ⟨z, d, xs, rel, o, es, ep, g1, g2, g3, g4, g5⟩ := (show ObjOk X.prog X.w H s.heap p (.dT kvs) from I.hok p _ hp)
  have hkx : xs.map (·.1) = ks.map kP := by
    rw [← hk]
    exact (paired_keys rel).symm
  have hn : ks.Nodup := by
    rw [hkx] at g5
    rw [List.nodup_iff_pairwise_ne] at g5 ⊢
    rw [List.pairwise_map] at g5
    exact g5.imp fun {a b} h e => h (by rw [e])
  have hxl : xs.length = ks.length := by have := congrArg List.length hkx; simpa using this
  have hesl : es.size = ks.length := by rw [← Array.length_toList, g4, List.length_map, hxl]
  have sl0 : sizeLine = 16777216 := sizeLine_eq
  have fact : ∀ i, i < ks.length → (es[i]?).map (·.key) = some (Value.ref (xs.map (·.2.1))[i]!) ∧ H (xs.map (·.2.1))[i]! = some (.tup ((kP (ks.getD i (default, default))).map kV)) := fun i hi => by
    have ex : xs[i]? = some xs[i] := List.getElem?_eq_getElem (by omega)
    obtain ⟨kv, ekv, e1, e2, _⟩ := paired_get rel ex
    have ea : (xs.map (·.2.1))[i]! = xs[i].2.1 := by
      rw [List.getElem!_eq_getElem?_getD, List.getElem?_map, ex]; rfl
    rw [ea]
    refine ⟨?_, ?_⟩
    · rw [← Array.getElem?_toList, g4, List.getElem?_map, ex]; rfl
    · rw [e1] at e2
      have e3 : (xs.map (·.1))[i]? = some xs[i].1 := by rw [List.getElem?_map, ex]; rfl
      rw [hkx, List.getElem?_map, List.getElem?_eq_getElem hi] at e3
      have e4 : kP ks[i] = xs[i].1 := Option.some.inj e3
      have e5 : ks.getD i (default, default) = ks[i] := by simp [List.getD, hi]
      rw [e5, e4]; exact e2
  refine sortedT_by (T := fun vs => ∀ i, i < ks.length → vs.getD i Value.none = .ref (xs.map (·.2.1))[i]!) hn h6 (fun R hR => PySem.W.kdu_collect (A := X.A.in1) (rawSrc (es := es) (ep := ep) d) (by simpa using I.ok.hd hc) ⟨o, g1, g2, g3⟩ (by omega) fun h' tk acc kk hacc => ?_) fun h1 h' tk vs l n k1 k2 hT hvl ho l1 l2 l3 => ?_
  · have al : acc.toList.length = ks.length := by rw [Array.length_toList]; exact hacc.1.trans hesl
    have at' : ∀ i, i < ks.length → acc.toList.getD i Value.none = .ref (xs.map (·.2.1))[i]! := fun i hi => by
      have e1 : acc.toList[i]? = some acc.toList[i] := List.getElem?_eq_getElem (by omega)
      obtain ⟨e, ee, ev⟩ := hacc.2 i acc.toList[i] (by rw [← Array.getElem?_toList]; exact e1)
      have f := (fact i hi).1
      rw [ee] at f
      have f' : e.key = Value.ref (xs.map (·.2.1))[i]! := Option.some.inj f
      simp only [List.getD, e1, Option.getD_some]
      rw [ev, f']
    refine hR h' tk acc.toList kk (pairs_of al fun i hi => ?_) at'
    rw [at' i hi]
    obtain ⟨_, its, rv, ob, e1, e2, m, e3⟩ := (show ObjOk X.prog X.w H s.heap _ (.tup ((kP (ks.getD i (default, default))).map kV)) from I.hok _ _ (fact i hi).2)
    have g := kk _ _ e1
    obtain ⟨v1, v2, rfl, r1, r2⟩ := vals2 (show Vals [V.str _, V.str _] its from rv)
    obtain ⟨t1, rfl⟩ := r1
    obtain ⟨t2, rfl⟩ := r2
    exact ⟨_, ob, m, t1, t2, rfl, Nat.ne_of_lt (Heap.lt_size g), g, e2, e3⟩
  · have I1 : Inv X pins σ H { s with heap := h1, toks := tk } := I.kept k1
    have ll : l.length = ks.length := by have := l2.length_eq; simpa using this
    have eo : (l.map fun i => vs.getD i Value.none) = (l.map fun i => (xs.map (·.2.1))[i]!).map Value.ref := by
      rw [List.map_map]
      exact List.map_congr_left fun i hi => hT i (l1 i hi)
    refine ⟨.ref h1.objs.size, _, I1.laid (t' := tk) (o := .lst ((l.map fun i => (xs.map (·.2.1))[i]!).map V.ref)) k2 (Nat.le_refl _) ⟨by rw [List.length_map, List.length_map]; omega, (l.map fun i => (xs.map (·.2.1))[i]!).map Value.ref, n, ?_, by rw [← eo]; exact ho⟩, rfl,
      q _ _ _ (I1.hok.fresh (Nat.le_refl _)) l2 l3 (by simp) fun j a k ea ek => ?_⟩
    · generalize (l.map fun i => (xs.map (·.2.1))[i]!) = ys
      induction ys with
      | nil => exact .nil
      | cons y ys ih => exact .cons rfl ih
    · rw [List.getElem?_map] at ea ek
      cases ej : l[j]? with
      | none => rw [ej] at ea; cases ea
      | some i =>
        rw [ej] at ea ek
        cases (show some _ = some a from ea)
        cases (show some _ = some k from ek)
        exact (fact i (l1 i (List.mem_of_getElem? ej))).2
end
end L2
namespace L2
open PySem PySem.Spec PyProof.Rows
noncomputable def lexS : List Str → List Str → Bool
  | [], [] => false
  | [], _ :: _ => true
  | _ :: _, [] => false
  | x :: xs, y :: ys => if x = y then lexS xs ys else slt x y
section
open PySem.SeqAt
open PySem.AutoSeq1 (wpAny_loadPart')
open PySem.MeetsSeq PySem.MeetsSeq2 PySem.MeetsSeq3
theorem tuple_lt_strs (l b : Addr) (xs ys : Array Value) (n n2 : Nat) (dd dd2 : Option Addr) (sl sl2 : Array (Option Value)) (ss tt : List Str) (hi : StrsAre xs.toList ss) (hj : StrsAre ys.toList tt) :
    Meets (Builtin.«tuple.__lt__» ⟨[.ref l, .ref b], []⟩)
      (fun _ R s => s.heap.get? l = some { cls := .type "tuple", dict := dd, data := .seq xs n, slots := sl } ∧ s.heap.get? b = some { cls := .type "tuple", dict := dd2, data := .seq ys n2, slots := sl2 } ∧ R (.ok (.ret (.bool (lexS ss tt)))) s) :=
  .of_wp fun prog w A R s h => by
    obtain ⟨hp, g, d, tk, os⟩ := s
    obtain ⟨hl, hb, h⟩ := h
    have f2 := AutoSeq1.sub_tuple_tuple
    have z1 : xs.size = ss.length := by rw [← Array.length_toList, ← hi.strs, List.length_map]
    have z2 : ys.size = tt.length := by rw [← Array.length_toList, ← hj.strs, List.length_map]
    wp_walk using wpAny_loadPart' hl, wpAny_loadPart' hb, wpAny_forIn_list _ (fun rest b s' => b.1 = none ∧ s' = ⟨hp, g, d, tk, os⟩ ∧ ∃ (vs ws : List Value) (ss' tt' : List Str), rest = vs.zip ws ∧ StrsAre vs ss' ∧ StrsAre ws tt' ∧ ss'.length + ys.size = tt'.length + xs.size ∧ R (.ok (.ret (.bool (lexS ss' tt')))) ⟨hp, g, d, tk, os⟩) _
    case turn =>
      rintro ⟨y, x⟩ rest b s' ⟨hb', rfl, vs, ws, ss', tt', hz, hv, hw, len, hR⟩
      cases hv with
      | nil => rw [List.zip_nil_left] at hz; cases hz
      | cons a t hv' =>
        cases hw with
        | nil => rw [List.zip_nil_right] at hz; cases hz
        | cons c u hw' =>
          rw [List.zip_cons_cons] at hz
          injection hz with q1 q2
          injection q1 with q3 q4
          subst q3 q4
          have hR' : R (.ok (.ret (.bool (if a = c then lexS _ _ else slt a c)))) ⟨hp, g, d, tk, os⟩ := hR
          simp only [List.length_cons] at len
          obtain ⟨e, he, hiff⟩ : ∃ e, SeqAt.EqAt A.in1 ⟨hp, g, d, tk, os⟩ (.str a t) (.str c u) e ∧ (e = true ↔ a = c) := ⟨(a == c), SeqAt.EqAt.str_str a t c u, by simp⟩
          refine wpAny_bind (he prog w _ _ ?_)
          cases e with
          | true =>
            rw [if_pos (hiff.mp rfl)] at hR'
            wp_walk
            exact ⟨rfl, rfl, _, _, _, _, q2, hv', hw', by omega, hR'⟩
          | false =>
            rw [if_neg (fun q => absurd (hiff.mpr q) Bool.false_ne_true)] at hR'
            have hri : ∀ (E : Value → Shared → Prop) (Q : Value → Shared → Prop), Q (.bool (slt a c)) ⟨hp, g, d, tk, os⟩ → wpAny (model prog w) A.in1 (richCompare .Lt (.str a t) (.str c u)) Q E ⟨hp, g, d, tk, os⟩ := fun E Q h => PySem.P.lt_str h
            wp_walk using hri
            exact ⟨_, rfl, by simpa using hR'⟩
    case fin =>
      rintro ⟨b1, b2⟩ s' ⟨hb', rfl, vs, ws, ss', tt', hz, hv, hw, len, hR⟩
      simp only at hb'
      subst hb'
      have e : lexS ss' tt' = decide (xs.size < ys.size) := by
        cases hv with
        | nil =>
          cases hw with
          | nil => simp only [List.length_nil] at len; exact (decide_eq_false (by omega)).symm
          | cons c u _ => simp only [List.length_nil, List.length_cons] at len; exact (decide_eq_true (by omega)).symm
        | cons a t _ =>
          cases hw with
          | nil => simp only [List.length_nil, List.length_cons] at len; exact (decide_eq_false (by omega)).symm
          | cons c u _ => rw [List.zip_cons_cons] at hz; cases hz
      rw [e] at hR
      wp_walk
      exact ⟨_, rfl, by simpa [Builtin.Tuple.tupleCompareSizes] using hR⟩
    case h => exact ⟨rfl, rfl, xs.toList, ys.toList, ss, tt, rfl, hi, hj, by omega, h⟩
end
noncomputable def rLtIP (K : PySem.W.Frag) : R2 := fun x y H Q => (∃ i j, x = .int i ∧ y = .int j ∧ Q (.bl (decide (i < j))) H) ∨ ∃ a b k k', x = .ref a ∧ y = .ref b ∧ SqT K H a ((kP k).map kV) ∧ SqT K H b ((kP k').map kV) ∧ Q (.bl (plt k k')) H
theorem op_ltIP {X : Cx} (hu : X.A.units < cLine) : OpR X (compareOp .Lt) (rLtIP X.K) := by
  intro pins s σ H x y v u Q I rx ry h
  rcases h with ⟨i, j, rfl, rfl, q⟩ | ⟨a, b, k, k', rfl, rfl, ha, hb, q⟩
  · exact op_lt pins s σ H _ _ v u Q I rx ry ⟨i, j, rfl, rfl, q⟩
  · cases (show v = Value.ref a from rx)
    cases (show u = Value.ref b from ry)
    obtain ⟨its, r1, p1, _⟩ := I.tuple ha
    obtain ⟨its2, r2, p2, _⟩ := I.tuple hb
    have i1 : StrsAre its.toArray.toList [k.1, k.2] := strs_of (ys := [k.1, k.2]) (by have r' : Vals [V.str k.1, V.str k.2] its := r1; simpa using r')
    have i2 : StrsAre its2.toArray.toList [k'.1, k'.2] := strs_of (ys := [k'.1, k'.2]) (by have r' : Vals [V.str k'.1, V.str k'.2] its2 := r2; simpa using r')
    obtain ⟨⟨cls, dd, data, sl⟩, g1, c1, n1, d1⟩ := id p1
    obtain ⟨⟨cls2, dd2, data2, sl2⟩, g2, c2, n2, d2⟩ := id p2
    simp only at c1 d1 c2 d2
    subst c1 d1 c2 d2
    refine richCompare_meets_room (op := .Lt) ⟨_, g1, rfl⟩ ⟨_, g2, rfl⟩ PySem.F.slot_tuple_lt PySem.F.entry_tuple_lt (PySem.F.args_tuple_lt_2 _ _) (tuple_lt_strs a b its.toArray its2.toArray n1 n2 dd dd2 sl sl2 _ _ i1 i2)
      ⟨g1, g2, show Value.bool (plt k k') ≠ Value.notImplemented ∧ EP X pins σ Q (.bool (plt k k')) s from ⟨(fun x => nomatch x), ⟨.bl (plt k k'), H, I, rfl, q⟩⟩⟩ hu
end L2
namespace L2
open PySem PySem.Spec PyProof.Rows
noncomputable def Tups (H H' : Hp) : Prop := ∀ b xs, H b = some (.tup xs) → H' b = some (.tup xs)
theorem Tups.refl (H : Hp) : Tups H H := fun _ _ h => h
theorem Tups.trans {H H1 H2 : Hp} (a : Tups H H1) (b : Tups H1 H2) : Tups H H2 := fun c o h => b c o (a c o h)
theorem Same.tups {H H' : Hp} (s : Same H H') : Tups H H' := fun b _ e => s b _ e
theorem Tups.new {H H1 : Hp} {p : Addr} {o : HO} (s : Tups H H1) (h : H1 p = none) : Tups H (upd H1 p o) := fun b u e => by rw [upd_ne (ne_of_none (s b u e) h)]; exact s b u e
theorem Tups.put {H H1 : Hp} {p : Addr} {o u : HO} (s : Tups H H1) (h : H1 p = some u) (nt : ∀ xs, u ≠ .tup xs) : Tups H (upd H1 p o) := fun b xs e => by
  have e1 := s b xs e
  have ne : b ≠ p := fun z => by subst z; rw [h] at e1; exact nt xs (Option.some.inj e1)
  rw [upd_ne ne]; exact e1
theorem Grow.more {H1 H H' : Hp} {D : Addr} {ys : List V} (G : Grow H1 H D ys) (s : Same H H') : Grow H1 H' D ys := ⟨s _ _ G.at', G.same.trans s⟩
theorem paired_getL {α β : Type} {F : α → β → Prop} : ∀ {l₁ : List α} {l₂ : List β}, Paired F l₁ l₂ → ∀ {i : Nat} {a : α}, l₁[i]? = some a → ∃ b, l₂[i]? = some b ∧ F a b
  | _, _, .nil, i, b, e => by simp at e
  | _, _, .cons h r, i, b, e => by
    cases i with
    | zero => cases (show some _ = some b from e); exact ⟨_, rfl, h⟩
    | succ i => exact paired_getL r (by simpa using e)
theorem paired_mono {α β : Type} {F G : α → β → Prop} (f : ∀ a b, F a b → G a b) : ∀ {l₁ : List α} {l₂ : List β}, Paired F l₁ l₂ → Paired G l₁ l₂
  | _, _, .nil => .nil
  | _, _, .cons h r => .cons (f _ _ h) (paired_mono f r)
theorem paired_app {α β : Type} {F : α → β → Prop} : ∀ {l₁ m₁ : List α} {l₂ m₂ : List β}, Paired F l₁ l₂ → Paired F m₁ m₂ → Paired F (l₁ ++ m₁) (l₂ ++ m₂)
  | _, _, _, _, .nil, q => q
  | _, _, _, _, .cons h r, q => .cons h (paired_app r q)
section
variable {g : BI → TG} {te : BI → TE} {σ0 : St} {D : Addr} {End : Hp → Prop} {H1 : Hp}
theorem comp_map {K : PySem.W.Frag} {a : Addr} {xs : List V} {ys : List V} (hD : H1 D = none) (hT : SqT K H1 a xs) (hz : xs.length ≤ sizeLine) (hl : ys.length = xs.length)
    (turn : ∀ (i : Nat) (x : V) (H' : Hp), xs[i]? = some x → Same H1 H' → ∀ b (R : VK), (∀ H'' y, ys[i]? = some y → Same H' H'' → R y H'') → g b x σ0 H' fun σ2 H2 => te b σ2 H2 R)
    (fin : ∀ H', Same H1 H' → H' D = some (.lst ys) → End H') :
    ∃ W : Nat → Nat → Hp → Prop, (∃ m, W 0 m (upd H1 D (.lst []))) ∧ ∀ b, CTurn (Itt K a) (g b) (tYes) (aPut D (te b)) σ0 End W :=
  comp_tup (xs := xs) (fun i H' => Grow H1 H' D (ys.take i)) (Grow.start hD) (fun i H' _ G => G.same.tup hT) (fun H' G => fin H' G.same (by have e := G.at'; rw [← hl, List.take_length] at e; exact e)) (fun i x H' hx hi G b =>
    turn i x H' hx G.same b _ fun H'' y hy s => ⟨_, (G.more s).at', by rw [List.length_take]; omega, nx hi (by
      show Grow H1 _ D (ys.take (i + 1))
      rw [List.take_add_one, hy]
      exact (G.more s).put hD _)⟩)
end
noncomputable def NxS (n i : Nat) (Pv : Nat → St → Hp → Prop) (σ : St) (H : Hp) : Prop := ∃ m', m' < n - i ∧ (m' = n - (i + 1) ∧ i + 1 ≤ n ∧ Pv (i + 1) σ H)
theorem nxs {n i : Nat} {Pv : Nat → St → Hp → Prop} {σ : St} {H : Hp} (hi : i < n) (h : Pv (i + 1) σ H) : NxS n i Pv σ H := ⟨n - (i + 1), by omega, rfl, hi, h⟩
noncomputable def WS (n : Nat) (Pv : Nat → St → Hp → Prop) : Nat → Nat → St → Hp → Prop := fun i m σ H => m = n - i ∧ i ≤ n ∧ Pv i σ H
section
variable {g : TG} {act : TAct} {End : St → Hp → Prop}
theorem ct_by {J : It} (n : Nat) (Pv : Nat → St → Hp → Prop) (stop : ∀ σ H, Pv n σ H → J.stop n H ∧ End σ H)
    (turn : ∀ i σ H, i < n → Pv i σ H → J.go i H ∧ ∀ x H', J.yld i H x H' → g x σ H' fun σ2 H2 => act σ2 H2 (NxS n i Pv)) : CT J g tYes act End (WS n Pv) := by
  intro i m σ H ⟨hm, hi, p⟩
  subst hm
  by_cases hlt : i < n
  · exact .inr ⟨(turn i σ H hlt p).1, fun x H' y => (turn i σ H hlt p).2 x H' y⟩
  · have e : i = n := by omega
    subst e
    exact .inl (stop σ H p)
theorem ct_tup {K : PySem.W.Frag} {a : Addr} {xs : List V} (Pv : Nat → St → Hp → Prop) (hl : ∀ i σ H, i ≤ xs.length → Pv i σ H → SqT K H a xs) (stop : ∀ σ H, Pv xs.length σ H → End σ H)
    (turn : ∀ i x σ H, xs[i]? = some x → i < xs.length → Pv i σ H → g x σ H fun σ2 H2 => act σ2 H2 (NxS xs.length i Pv)) : CT (Itt K a) g tYes act End (WS xs.length Pv) :=
  ct_by xs.length Pv (fun σ H p => ⟨⟨xs, hl _ σ H (Nat.le_refl _) p, Nat.le_refl _⟩, stop σ H p⟩) fun i σ H hi p =>
    ⟨⟨xs, xs[i], hl i σ H (Nat.le_of_lt hi) p, by simp [hi]⟩, fun x H' ⟨e, y⟩ => by subst e; exact turn i x σ _ (y xs (hl i σ _ (Nat.le_of_lt hi) p)) hi p⟩
theorem ct_list {K : PySem.W.Frag} {a : Addr} {xs : List V} (Pv : Nat → St → Hp → Prop) (hl : ∀ i σ H, i ≤ xs.length → Pv i σ H → SqL K H a xs) (stop : ∀ σ H, Pv xs.length σ H → End σ H)
    (turn : ∀ i x σ H, xs[i]? = some x → i < xs.length → Pv i σ H → g x σ H fun σ2 H2 => act σ2 H2 (NxS xs.length i Pv)) : CT (Itl K a) g tYes act End (WS xs.length Pv) :=
  ct_by xs.length Pv (fun σ H p => ⟨⟨xs, hl _ σ H (Nat.le_refl _) p, Nat.le_refl _⟩, stop σ H p⟩) fun i σ H hi p =>
    ⟨⟨xs, xs[i], hl i σ H (Nat.le_of_lt hi) p, by simp [hi]⟩, fun x H' ⟨e, y⟩ => by subst e; exact turn i x σ _ (y xs (hl i σ _ (Nat.le_of_lt hi) p)) hi p⟩
theorem ws0 {n : Nat} {Pv : Nat → St → Hp → Prop} {σ : St} {H : Hp} (h : Pv 0 σ H) : ∃ m, WS n Pv 0 m σ H := ⟨n, rfl, Nat.zero_le _, h⟩
end
end L2
namespace HT
open PySem PySem.Spec PyProof.Rows
section
variable {prog : Program} {w : World} {A : Around} {E : Value → Shared → Prop} {s : Shared}
theorem cat_tup0 {t b : Addr} {ws : List Value} {Q : Value → Shared → Prop} (ht : IsTup s.heap t (#[] : Array Value)) (hb : IsTup s.heap b ws.toArray)
    (h1 : Q (.ref b) s) : wpAny (model prog w) A (binaryOp .Add (.ref t) (.ref b)) Q E s := by
  obtain ⟨⟨cls, dd, data, sl⟩, ho, hc, n, hd⟩ := id ht
  obtain ⟨⟨cls2, dd2, data2, sl2⟩, ho2, hc2, n2, hd2⟩ := id hb
  simp only at hc hd hc2 hd2
  subst hc hd hc2 hd2
  exact concat_meets ⟨_, ho, rfl⟩ ⟨_, ho2, rfl⟩ noFill_tuple_add seq_tuple_add PySem.F.slot_tuple_add PySem.F.entry_tuple_add (PySem.F.args_tuple_add_2 _ _)
      (tuple_addW0 t b #[] ws.toArray n n2 dd dd2 sl sl2 (by simp)) ⟨ho, ho2, h1⟩
theorem getItem_tuple_whole {t sl : Addr} {items : Array Value} {vl vu : Value} {lo hi : Option Int} {Q : Value → Shared → Prop} (ht : IsTup s.heap t items) (hs : s.heap.IsSliceOf sl vl vu .none) (pl : IsPart vl lo) (pu : IsPart vu hi)
    (hw : sIx items.size 0 lo = 0 ∧ sIx items.size items.size hi = items.size)
    (h : Q (.ref t) s) : wpAny (model prog w) A (getItem (.ref t) (.ref sl)) Q E s := by
  obtain ⟨os, hos, hcs, hds⟩ := id hs
  have hTs : s.TypeIs (.ref sl) "slice" := ⟨os, hos, hcs⟩
  unfold getItem
  try with_reducible refine wpAny_holding ?_
  first | refine wpAny_bind (wpAny_pure ?_) | skip
  refine wpAny_bind (wpAny_sequenceKey ht.typeIs (by decide) ?_)
  refine wpAny_bind (wpAny_callSpecial?_slot (name := Str.ofString "__getitem__") ht.typeIs PyProof.Rows.slot_tuple_getitem
    (wpAny_call_entry PyProof.Rows.slot_tuple_getitem ht.typeIs entry_tuple_getitem ?_ (args_tuple_getitem _ _)))
  show wpAny _ _ (Builtin.Tuple.tupleItemsOf (.ref t) >>= _) _ _ s
  refine wpAny_bind (tupleItemsOf_ ht ?_)
  refine wpAny_bind (wpAny_typeOf hTs ?_)
  rw [if_pos (by decide)]
  refine wpAny_bind (sliceApplied_gen hs pl pu ?_)
  have hyes : ((((sIx items.size 0 lo : Nat) : Int) == 0 && (1 : Int) == 1 && (sIx items.size items.size hi - sIx items.size 0 lo) == items.size) = true) := by
    rw [hw.1, hw.2]; simp
  show wpAny _ _ (if (((sIx items.size 0 lo : Nat) : Int) == 0 && (1 : Int) == 1 && (sIx items.size items.size hi - sIx items.size 0 lo) == items.size) = true then _ else _) _ _ s
  rw [if_pos hyes]
  unfold Builtin.Tuple.tupleIsExact
  refine wpAny_bind ?_
  refine wpAny_bind (wpAny_typeOf ht.typeIs ?_)
  refine wpAny_pure ?_
  rw [if_pos (by decide)]
  refine wpAny_bind (wpAny_rule ?_)
  exact wpAny_pure ⟨_, rfl, wpAny_pure h⟩
end
end HT
namespace L2
open PySem PySem.Spec PyProof.Rows
section
variable {X : Cx}
structure CatA (x y : V) (H : Hp) (Q : VK) : Prop where
  h : ∃ a b xs ys, x = .ref a ∧ y = .ref b ∧ H a = some (.tup xs) ∧ H b = some (.tup ys) ∧ xs.length + ys.length ≤ sizeLine ∧ ∀ p H', H' p = some (.tup (xs ++ ys)) → Same H H' → Q (.ref p) H'
theorem oCatA : OpR X (binaryOp .Add) CatA := by
  intro pins s σ H x y v u Q I rx ry ⟨h⟩
  obtain ⟨a, b, xs, ys, rfl, rfl, ha, hb, hz, q⟩ := h
  by_cases hx : xs = []
  · subst hx
    cases rx
    cases ry
    obtain ⟨its, r1, p1, _⟩ := I.tuple (SqT.of ha)
    obtain ⟨its2, r2, p2, _⟩ := I.tuple (SqT.of hb)
    have e : its = [] := r1.nil_iff.mpr rfl
    subst e
    exact HT.cat_tup0 p1 p2 ⟨.ref b, H, I, rfl, q b H hb (Same.refl H)⟩
  · refine op_catT pins s σ H _ _ v u Q I rx ry ⟨a, b, xs, ys, rfl, rfl, SqT.of ha, SqT.of hb, hx, hz, fun e => ?_, fun _ p hp => q p _ upd_same ((Same.refl H).upd hp)⟩
    subst e
    exact q a H (by rw [List.append_nil]; exact ha) (Same.refl H)
structure SlA (x : V) (lo hi : Option Int) (H : Hp) (Q : VK) : Prop where
  h : ∃ a xs, x = .ref a ∧ H a = some (.tup xs) ∧ ∀ p H', H' p = some (.tup (cutV xs lo hi)) → Same H H' → Q (.ref p) H'
theorem iSlA : SlR X SlA := by
  intro pins s σ H x v vl vu lo hi sl Q I rx hs pl pu ⟨h⟩
  obtain ⟨a, xs, rfl, ha, q⟩ := h
  by_cases hw : HT.sIx xs.length 0 lo = 0 ∧ HT.sIx xs.length xs.length hi = xs.length
  · cases rx
    obtain ⟨its, r, ht, hz⟩ := I.tuple (SqT.of ha)
    have hlen : its.toArray.size = xs.length := by rw [List.size_toArray]; exact r.length.symm
    refine ⟨"tuple", _, PyProof.Rows.slot_tuple_getitem.lookup, ht.typeIs, ?_⟩
    refine HT.getItem_tuple_whole ht hs pl pu (by rw [hlen]; exact hw) ⟨.ref a, H, I, rfl, q a H ?_ (Same.refl H)⟩
    rw [ha]
    unfold cutV
    rw [hw.1, hw.2, List.drop_zero, Nat.sub_zero, List.take_length]
  · exact sl_tup pins s σ H _ v vl vu lo hi sl Q I rx hs pl pu ⟨a, xs, rfl, SqT.of ha, hw, fun p hp => q p _ upd_same ((Same.refl H).upd hp)⟩
end
end L2
namespace HT
open PySem PySem.Spec PyProof.Rows
theorem noFill_tuple_mul' : fillsNumberSlot (.type "tuple") "mul" = pure false :=
  PySem.fillsNumberSlot_seq (id := "tuple.__mul__") (r := some (.builtin "tuple.__rmul__")) F.slot_tuple_mul.lookup (by decide +kernel) F.slot_tuple_rmul.lookup (by decide +kernel)
theorem repeat_tuple' : seqRepeat? (.type "tuple") = pure (some (.builtin "tuple.__mul__")) := by
  unfold seqRepeat?
  rw [PySem.seqSlot_of (T := "tuple") (name := "__mul__") (id := "tuple.__mul__") F.slot_tuple_mul.lookup (by decide +kernel), PySem.seqSlot_of (T := "tuple") (name := "__rmul__") (id := "tuple.__rmul__") F.slot_tuple_rmul.lookup (by decide +kernel)]
  rfl
theorem int_rmul_tuple' (a : Int) (t : Tok) (l : Addr) (items : Array Value) (n : Nat) (dd : Option Addr) (sl : Array (Option Value)) :
    Meets (Builtin.«int.__rmul__» ⟨[.int a t, .ref l], []⟩) (fun _ R s => s.heap.get? l = some { cls := .type "tuple", dict := dd, data := .seq items n, slots := sl } ∧ R (.ok (.ret Value.notImplemented)) s) :=
  .of_wp fun prog w A R s h => by obtain ⟨hp, g, d, tk, os⟩ := s; obtain ⟨hl, h⟩ := h; wp_walk; exact ⟨_, rfl, h⟩
theorem tuple_mul_two (l : Addr) (x : Value) (n : Nat) (dd : Option Addr) (sl : Array (Option Value)) (u : Tok) :
    Meets (Builtin.«tuple.__mul__» ⟨[.ref l, .int 2 u], []⟩) (fun _ R s => s.heap.get? l = some { cls := .type "tuple", dict := dd, data := .seq #[x] n, slots := sl } ∧ R (.ok (.ret (Value.ref s.heap.objs.size))) { s with heap := s.heap.push { cls := Value.type "tuple", data := Data.seq #[x, x] }, toks := s.toks }) :=
  .of_wp fun prog w A R s h => by obtain ⟨hp, g, d, tk, os⟩ := s; obtain ⟨hl, h⟩ := h; have f1 := AutoSeq1.idx_int; wp_walk using wpAny_loadPart' hl; exact ⟨_, rfl, h⟩
section
variable {prog : Program} {w : World} {A : Around} {E : Value → Shared → Prop} {s : Shared}
theorem mul_tup2 {t : Addr} {x : Value} {u : Tok} {Q : Value → Shared → Prop} (ht : IsTup s.heap t #[x])
    (h : Q (.ref s.heap.objs.size) { s with heap := s.heap.push { cls := .type "tuple", data := .seq #[x, x] } }) : wpAny (model prog w) A (binaryOp .Mult (.ref t) (.int 2 u)) Q E s := by
  obtain ⟨⟨cls, dd, data, sl⟩, ho, hc, n, hd⟩ := id ht
  simp only at hc hd
  subst hc hd
  exact PySem.wpAny_binaryOp_repeat_ref (T := "tuple") (U := "int") (by decide) ⟨_, ho, rfl⟩ (fun s' => typeIs_int s' 2 u) noFill_tuple_mul' F.fills_int_mul F.slot_int_rmul repeat_tuple' F.slot_int_index.lookup
    (call_meets F.slot_int_rmul (typeIs_int s 2 u) F.entry_int_rmul (F.args_int_rmul_2 _ _) (int_rmul_tuple' 2 u t #[x] n dd sl)
      ⟨ho, rfl, ⟨_, ho, rfl⟩, call_meets F.slot_tuple_mul ⟨_, ho, rfl⟩ F.entry_tuple_mul (F.args_tuple_mul_2 _ _) (tuple_mul_two t x n dd sl u) ⟨ho, h⟩⟩)
end
end HT
namespace L2
open PySem PySem.Spec PyProof.Rows
section
variable {X : Cx}
structure TwiceA (x y : V) (H : Hp) (Q : VK) : Prop where
  h : ∃ a z, x = .ref a ∧ y = .int 2 ∧ H a = some (.tup [z]) ∧ ∀ p, H p = none → Q (.ref p) (upd H p (.tup [z, z]))
theorem oTwiceA : OpR X (binaryOp .Mult) TwiceA := by
  intro pins s σ H x y v u Q I rx ry ⟨h⟩
  obtain ⟨a, z, rfl, rfl, ha, q⟩ := h
  cases rx
  obtain ⟨t', rfl⟩ := ry
  obtain ⟨its, r1, p1, _⟩ := I.tuple (SqT.of ha)
  have sl0 : sizeLine = 16777216 := sizeLine_eq
  cases r1 with
  | cons r2 r3 =>
    cases r3
    refine HT.mul_tup2 p1 ⟨.ref s.heap.objs.size, _, I.laid (t' := s.toks) (o := .tup [z, z]) (fun b ob q => Heap.get?_push_of_some _ q) (Nat.le_refl _) ?_, rfl, q _ (I.hok.fresh (Nat.le_refl _))⟩
    exact ⟨by show (2 : Nat) ≤ sizeLine; omega, _, .cons r2 (.cons r2 .nil), IsTup.new _ _⟩
end
end L2
namespace HT
open PySem PySem.Spec PyProof.Rows
theorem tuple_ne_nil (l b : Addr) (items : Array Value) (n n2 : Nat) (dd dd2 : Option Addr) (sl sl2 : Array (Option Value)) :
    Meets (Builtin.«tuple.__ne__» ⟨[.ref l, .ref b], []⟩) (fun _ R s => s.heap.get? l = some { cls := .type "tuple", dict := dd, data := .seq items n, slots := sl } ∧ s.heap.get? b = some { cls := .type "tuple", dict := dd2, data := .seq #[] n2, slots := sl2 } ∧ R (.ok (.ret (Value.bool (!items.isEmpty)))) s) :=
  .of_wp fun prog w A R s h => by
    obtain ⟨hp, g, d, tk, os⟩ := s; obtain ⟨hl, hb, h⟩ := h; have f2 := AutoSeq1.sub_tuple_tuple
    obtain ⟨items⟩ := items
    cases items with
    | nil =>
      wp_walk using wpAny_loadPart' hl, wpAny_loadPart' hb
      exact ⟨_, rfl, h⟩
    | cons x xs =>
      wp_walk using wpAny_loadPart' hl, wpAny_loadPart' hb
      exact ⟨_, rfl, h⟩
theorem list_ne_nil (l b : Addr) (x : Value) (xs : List Value) (n n2 : Nat) (dd dd2 : Option Addr) (sl sl2 : Array (Option Value)) :
    Meets (Builtin.«list.__ne__» ⟨[.ref l, .ref b], []⟩) (fun _ R s => s.heap.get? l = some { cls := .type "list", dict := dd, data := .seq ⟨x :: xs⟩ n, slots := sl } ∧ s.heap.get? b = some { cls := .type "list", dict := dd2, data := .seq #[] n2, slots := sl2 } ∧ R (.ok (.ret (Value.bool true))) s) :=
  .of_wp fun prog w A R s h => by
    obtain ⟨hp, g, d, tk, os⟩ := s; obtain ⟨hl, hb, h⟩ := h; have f2 := AutoSeq1.sub_list_list
    wp_walk using wpAny_loadPart' hl, wpAny_loadPart' hb
    exact ⟨_, rfl, h⟩
section
variable {prog : Program} {w : World} {A : Around} {E : Value → Shared → Prop} {s : Shared}
theorem ne_tup_nil {t b : Addr} {items : Array Value} {Q : Value → Shared → Prop} (ht : IsTup s.heap t items) (hb : IsTup s.heap b (#[] : Array Value)) (hu : A.units < cLine)
    (h : Q (.bool (!items.isEmpty)) s) : wpAny (model prog w) A (compareOp .NotEq (.ref t) (.ref b)) Q E s := by
  obtain ⟨⟨cls, dd, data, sl⟩, ho, hc, n, hd⟩ := id ht
  obtain ⟨⟨cls2, dd2, data2, sl2⟩, ho2, hc2, n2, hd2⟩ := id hb
  simp only at hc hd hc2 hd2
  subst hc hd hc2 hd2
  exact richCompare_meets_room (op := .NotEq) ⟨_, ho, rfl⟩ ⟨_, ho2, rfl⟩ PySem.F.slot_tuple_ne PySem.F.entry_tuple_ne (PySem.F.args_tuple_ne_2 _ _) (tuple_ne_nil t b items n n2 dd dd2 sl sl2)
    ⟨ho, ho2, show Value.bool (!items.isEmpty) ≠ Value.notImplemented ∧ Q (.bool (!items.isEmpty)) s from ⟨(fun x => nomatch x), h⟩⟩ hu
theorem ne_lst_nil {t b : Addr} {x : Value} {xs : List Value} {Q : Value → Shared → Prop} (ht : s.heap.IsList t ⟨x :: xs⟩) (hb : s.heap.IsList b (#[] : Array Value)) (hu : A.units < cLine)
    (h : Q (.bool true) s) : wpAny (model prog w) A (compareOp .NotEq (.ref t) (.ref b)) Q E s := by
  obtain ⟨⟨cls, dd, data, sl⟩, ho, hc, n, hd⟩ := id ht
  obtain ⟨⟨cls2, dd2, data2, sl2⟩, ho2, hc2, n2, hd2⟩ := id hb
  simp only at hc hd hc2 hd2
  subst hc hd hc2 hd2
  exact richCompare_meets_room (op := .NotEq) ⟨_, ho, rfl⟩ ⟨_, ho2, rfl⟩ PySem.F.slot_list_ne PySem.F.entry_list_ne (PySem.F.args_list_ne_2 _ _) (list_ne_nil t b x xs n n2 dd dd2 sl sl2)
    ⟨ho, ho2, show Value.bool true ≠ Value.notImplemented ∧ Q (.bool true) s from ⟨(fun x => nomatch x), h⟩⟩ hu
end
end HT
namespace L2
open PySem PySem.Spec PyProof.Rows
section
variable {X : Cx}
structure NeT (x y : V) (H : Hp) (Q : VK) : Prop where
  h : ∃ a b xs, x = .ref a ∧ y = .ref b ∧ H a = some (.tup xs) ∧ H b = some (.tup []) ∧ Q (.bl (!xs.isEmpty)) H
theorem oNeT (hu : X.A.units < cLine) : OpR X (compareOp .NotEq) NeT := by
  intro pins s σ H x y v u Q I rx ry ⟨h⟩
  obtain ⟨a, b, xs, rfl, rfl, ha, hb, q⟩ := h
  cases rx
  cases ry
  obtain ⟨its, r1, p1, _⟩ := I.tuple (SqT.of ha)
  obtain ⟨its2, r2, p2, _⟩ := I.tuple (SqT.of hb)
  have e : its2 = [] := r2.nil_iff.mpr rfl
  subst e
  refine HT.ne_tup_nil p1 p2 hu ⟨.bl (!xs.isEmpty), H, I, ?_, q⟩
  have e2 : its.toArray.isEmpty = xs.isEmpty := by
    have := r1.nil_iff
    cases xs <;> cases its <;> simp_all
  rw [e2]
  rfl
structure NeL (x y : V) (H : Hp) (Q : VK) : Prop where
  h : ∃ a b xs, x = .ref a ∧ y = .ref b ∧ H a = some (.lst xs) ∧ H b = some (.lst []) ∧ Q (.bl (!xs.isEmpty)) H
theorem oNeL (hu : X.A.units + 64 < cLine) : OpR X (compareOp .NotEq) NeL := by
  intro pins s σ H x y v u Q I rx ry ⟨h⟩
  obtain ⟨a, b, xs, rfl, rfl, ha, hb, q⟩ := h
  cases xs with
  | nil => exact op_neD hu pins s σ H _ _ v u Q I rx ry ⟨.list [], .list [], .lst (SqL.of ha) .nil, .lst (SqL.of hb) .nil, rfl, rfl, q⟩
  | cons y ys =>
    cases rx
    cases ry
    obtain ⟨its, r1, p1, _⟩ := I.list (SqL.of ha)
    obtain ⟨its2, r2, p2, _⟩ := I.list (SqL.of hb)
    have e : its2 = [] := r2.nil_iff.mpr rfl
    subst e
    cases r1 with
    | cons r3 r4 => exact HT.ne_lst_nil p1.isList p2.isList (by omega) ⟨.bl true, H, I, rfl, q⟩
end
end L2
namespace L2
open PySem PySem.Spec PyProof.Rows
structure SE (X : Cx) (e : Expr) (t : TE) : Prop where
  h : PE X e t
structure SA (X : Cx) (es : List Expr) (t : TA) : Prop where
  h : PA X es t
structure SS (X : Cx) (s : Stmt) (t : TS) : Prop where
  h : PS X s t
structure SSs (X : Cx) (s : List Stmt) (t : TS) : Prop where
  h : PSs X s t
structure SI (X : Cx) (tg it : Expr) (t : TI) : Prop where
  h : PI X tg it t
structure ST (X : Cx) (e : Expr) (t : TT) : Prop where
  h : PT X e t
structure SW (X : Cx) (e : Expr) (t : TT) : Prop where
  h : PW X e t
structure SG (X : Cx) (e : Expr) (t : TG) : Prop where
  h : PG X e t
structure SGs (X : Cx) (e : List Expr) (t : TGs) : Prop where
  h : PGs X e t
structure SO (X : Cx) (e : Option Expr) (t : TO) : Prop where
  h : PO X e t
structure SIf (X : Cx) (e : List Expr) (t : TT) : Prop where
  h : PIf X e t
structure SC (X : Cx) (op : CmpOp) (a b : Expr) (t : TE) : Prop where
  h : PC X op a b t
structure RO (X : Cx) (f : Value → Value → Sem Value) (r : R2) : Prop where
  h : OpR X f r
structure RU (X : Cx) (f : Value → Sem Value) (r : V → Hp → VK → Prop) : Prop where
  h : UnR X f r
structure RC (X : Cx) (f : Value) (r : List V → Hp → VK → Prop) : Prop where
  h : CallR X f r
structure RX (X : Cx) (r : R2) : Prop where
  h : IxR X r
structure RL (X : Cx) (r : V → Option Int → Option Int → Hp → VK → Prop) : Prop where
  h : SlR X r
structure RM (X : Cx) (id : String) (r : V → List V → Hp → VK → Prop) : Prop where
  h : MtR X id r
section
variable {X : Cx} {e a b c o tg elt iter : Expr} {es rest' : List Expr} {te ta tb to : TE} {t : TA} {pos p p2 pos' apos cpos spos : Pos} {st : Stmt} {rest : List Stmt} {ts u : TS} {tA tB' : TT} {lo hi : Option Expr} {tl th : TO} {x : Str} {id T : String} {name : Str}
  {scope scX : Scope} {own cap : List Str} {ix : List Nat} {wi : TI} {g : BI → TG} {tt : BI → TT} {tf : BI → TE} {ifs : List Expr} {i : Nat}
theorem qa_nil : SA X [] tNil := ⟨pa_nil⟩
theorem qa_cons (ha : SE X e te) (hr : SA X es t) (hs : starEach (e :: es) X.env = (false, eval e X.env) :: starEach es X.env := by rfl) : SA X (e :: es) (tCons te t) := ⟨pa_cons ha.h hr.h hs⟩
theorem qV (i : Nat) (hN : X.N[i]? = some x := by rfl) (hv : Vis X.env.scope x := by first | exact Or.inl rfl | exact Or.inr (Or.inl rfl) | exact Or.inr (Or.inr rfl)) (hd : (x == ("__debug__" : Str)) = false := by decide)
    (hcd : (x == ("__classdict__" : Str)) = false := by decide) : SE X (.Name x pos) (tV i) := ⟨pV i hN hv hd hcd⟩
theorem qe_tup {x1} (h : SA X es t) : SE X (.Tuple es x1 pos) (tTup t) := ⟨pe_tup h.h⟩
theorem qe_lst (h : SA X es t) : SE X (.List es pos) (tLst t) := ⟨pe_lst h.h⟩
theorem qe_int {i j} : SE X (.Constant (.int i) j pos) (tC (.int i)) := ⟨pe_int⟩
theorem qe_str {x j} : SE X (.Constant (.str x) j pos) (tC (.str x)) := ⟨pe_str⟩
theorem qe_bl {b j} : SE X (.Constant (.bool b) j pos) (tC (.bl b)) := ⟨pe_bl⟩
theorem qe_non {j} : SE X (.Constant .none j pos) (tC .non) := ⟨pe_non⟩
theorem qe_dnewK : SE X (.Dict [] [] pos) tDNewK := ⟨pe_dnewK⟩
theorem qe_op {op : Operator} {r : R2} (ho : RO X (binaryOp op) r) (ha : SE X a ta) (hb : SE X b tb) : SE X (.BinOp a op b pos) (tOp r ta tb) := ⟨pe_op ho.h ha.h hb.h⟩
theorem qe_un {op : UnaryOp} {r : V → Hp → VK → Prop} (ho : RU X (unaryOp op) r) (ha : SE X a ta) : SE X (.UnaryOp op a pos) (tUn r ta) := ⟨pe_un ho.h ha.h⟩
theorem qe_ix {r : R2} (hr : RX X r) (ha : SE X a ta) (hb : SE X b tb) (hs : PlainIx b) : SE X (.Subscript a b pos) (tOp r ta tb) := ⟨pe_ix hr.h ha.h hb.h hs⟩
theorem qo_none : SO X none tNoPart := ⟨po_none⟩
theorem qoI (h : SE X e te) : SO X (some e) (tPartF te) := ⟨poI h.h⟩
theorem qe_slice {r : V → Option Int → Option Int → Hp → VK → Prop} (hr : RL X r) (he : SE X e te) (hl : SO X lo tl) (hu : SO X hi th) : SE X (.Subscript e (.Slice lo hi none p2) pos) (tSl r te tl th) := ⟨pe_slice hr.h he.h hl.h hu.h⟩
theorem qe_rev {k : Nat} {p1 p2 p3 : Pos} (he : SE X e te) : SE X (.Subscript e (.Slice none none (some (.UnaryOp .USub (.Constant (.int 1) k p1) p2)) p3) pos) (tRev X.K te) := ⟨pe_rev he.h⟩
theorem qe_call {CX : CXT} {k : Nat} {f : Addr} {fd : FuncData} {ps : List Str} {sp : Sp} {ds : List Value} {dvs : List V} {E : XK} (F : FnOk X.prog X.w X.K X.mg X.base CX k f fd ps sp) (hr : Room k X.A) (hg : Gl X x) (hm : X.mg x = some (.ref f)) (hk : PySem.W.keepIn X.K (.ref f) = true) (hb : Binds X.K fd ps ds) (hd : Vals dvs ds) (hx : Passes CX X E)
    (ha : SA X (e :: es) t) (hdb : (x == ("__debug__" : Str)) = false := by decide) (he : starEach (e :: es) X.env = (false, eval e X.env) :: starEach es X.env := by rfl) (hpl : (backTo pos (starEach es X.env)).any (·.1) = false := by rfl) :
    SE X (.Call (.Name x p) (e :: es) [] pos) (tCall sp dvs E t) := ⟨pe_call F hr hg hm hk hb hd hx ha.h hdb he hpl⟩
theorem qe_callB {r : List V → Hp → VK → Prop} (hc : RC X (.builtin id) r) (hg : Gl X x) (hm : X.mg x = none) (hv : bootBuiltins x = some (.builtin id)) (ha : SA X (e :: es) t) (hn : x ≠ "__name__" := by decide) (hdb : (x == ("__debug__" : Str)) = false := by decide)
    (he : starEach (e :: es) X.env = (false, eval e X.env) :: starEach es X.env := by rfl) (hpl : (backTo pos (starEach es X.env)).any (·.1) = false := by rfl) : SE X (.Call (.Name x p) (e :: es) [] pos) (tCB r t) := ⟨pe_callB hc.h hg hm hv ha.h hn hdb he hpl⟩
theorem qe_callTy {r : List V → Hp → VK → Prop} (hc : RC X (.type T) r) (hg : Gl X x) (hm : X.mg x = none) (hv : bootBuiltins x = some (.type T)) (ha : SA X (e :: es) t) (hn : x ≠ "__name__" := by decide) (hdb : (x == ("__debug__" : Str)) = false := by decide)
    (he : starEach (e :: es) X.env = (false, eval e X.env) :: starEach es X.env := by rfl) (hpl : (backTo pos (starEach es X.env)).any (·.1) = false := by rfl) : SE X (.Call (.Name x p) (e :: es) [] pos) (tCB r t) := ⟨pe_callTy hc.h hg hm hv ha.h hn hdb he hpl⟩
theorem qe_bm {r : V → List V → Hp → VK → Prop} (pa : PlainAttrs T) (slot : Slot T name id) (hty : typeOf (.builtin id) = pure (.type "method_descriptor")) (hm : RM X id r) (ho : SE X o to) (ha : SA X (e :: es) t)
    (hbase : attributeBase o name X.env (eval o X.env) = eval o X.env := by rfl)
    (hfew : ((backTo cpos (starEach (e :: es) X.env)).all (fun x => !x.1) && (backToKw cpos (keywordEach [] X.env)).all (fun x => x.1.isSome)
      && decide ((e :: es).length + ([] : List Keyword).length + (if ([] : List Keyword).isEmpty then 0 else 1) < 30)) = true := by rfl)
    (hline : (apos.endLine == cpos.line) = true := by rfl) (hs : starEach (e :: es) X.env = (false, eval e X.env) :: starEach es X.env := by rfl) (hplain : (backTo cpos (starEach es X.env)).any (·.1) = false := by rfl) :
    SE X (.Call (.Attribute o name apos) (e :: es) [] cpos) (tBM X.K T r to t) := ⟨pe_bm pa slot hty hm.h ho.h ha.h hbase hfew hline hs hplain⟩
theorem qe_comp (hc : X.calm = true) (hX : X.env.scope = scX) (S : BlkS scX scope X.N own cap ix) (hi : SI X tg iter wi) (hg : ∀ b, SG (blk X scope (own ++ cap) b) tg (g b)) (ht : ∀ b, SIf (blk X scope (own ++ cap) b) ifs (tt b))
    (he : ∀ b, SE (blk X scope (own ++ cap) b) elt (tf b)) (hs : ∀ x, foldedSetIterable iter X.env x = pure x := by intro _; rfl) :
    SE X (.ListComp elt [⟨tg, iter, ifs, 0⟩] scope pos) (tComp own ix wi g tt tf) := ⟨pe_comp hc hX S hi.h (fun b => (hg b).h) (fun b => (ht b).h) (fun b => (he b).h) hs⟩
theorem qif_nil : SIf X [] tYes := ⟨pif_nil⟩
theorem qi_list {l : Expr} {tl : TE} (hl : SE X l tl) : SI X tg l (iList X.K tl) := ⟨pi_list hl.h⟩
theorem qi_tup {l : Expr} {tl : TE} (hl : SE X l tl) : SI X tg l (iTup X.K tl) := ⟨pi_tup hl.h⟩
theorem qi_range1 {ta : TA} (hg : Gl X "range") (hm : X.mg "range" = none) (ha : SA X [a] ta) (hs : starEach [a] X.env = [(false, eval a X.env)] := by rfl) : SI X tg (.Call (.Name "range" p) [a] [] pos) (iRng1 ta) := ⟨pi_range1 hg hm ha.h hs⟩
theorem qi_range3 {ta : TA} (hg : Gl X "range") (hm : X.mg "range" = none) (ha : SA X [a, b, c] ta) (hs : starEach [a, b, c] X.env = [(false, eval a X.env), (false, eval b X.env), (false, eval c X.env)] := by rfl) (hs2 : starEach [b, c] X.env = [(false, eval b X.env), (false, eval c X.env)] := by rfl) :
    SI X tg (.Call (.Name "range" p) [a, b, c] [] pos) (iRng3 ta) := ⟨pi_range3 hg hm ha.h hs hs2⟩
theorem qtC {op : CmpOp} {r : R2} (ho : RO X (compareOp op) r) (ha : SE X a ta) (hb : SE X b tb) (hm : behindInMarks op b = false) : ST X (.Compare a [op] [b] pos) (tF (tOp r ta tb)) := ⟨ptC ho.h ha.h hb.h hm⟩
theorem qtV {te : TE} (h : SE X e te) (he : ∀ whole, isTrue e X.env whole = (do let v ← whole; standAt e.pos; holding [v] (truthy v)) := by intro _; rfl) : ST X e (tF te) := ⟨ptV h.h he⟩
theorem qt_not (ha : ST X a tA) : ST X (.UnaryOp .Not a pos) (tNot tA) := ⟨pt_not ha.h⟩
theorem qt_cmp {op : CmpOp} {te : TE} (h : SC X op a b te) (h1 : behindInMarks op b = false := by first | exact nobehind _ (by decide) (by decide) | rfl) : ST X (.Compare a [op] [b] pos) (tB te) := ⟨pt_cmp h.h h1⟩
theorem qc_notN {j} (ha : SE X a ta) : SC X .IsNot a (.Constant .none j pos') (tNotN ta) := ⟨pc_notN ha.h⟩
theorem qw_and1 (ha : ST X a tA) : SW X (.BoolOp .And [a] pos) tA := ⟨pw_and1 ha.h⟩
theorem qw_or1 (ha : ST X a tA) : SW X (.BoolOp .Or [a] pos) tA := ⟨pw_or1 ha.h⟩
theorem qtAnd (ha : ST X a tA) (hb : SW X (.BoolOp .And (b :: rest') pos) tB') : ST X (.BoolOp .And (a :: b :: rest') pos) (tAnd tA tB') := ⟨ptAnd ha.h hb.h⟩
theorem qtOr (ha : ST X a tA) (hb : SW X (.BoolOp .Or (b :: rest') pos) tB') : ST X (.BoolOp .Or (a :: b :: rest') pos) (tOr tA tB') := ⟨ptOr ha.h hb.h⟩
theorem qg_name {i : Nat} (hN : X.N.Nodup) (hi : X.N[i]? = some x) (hx : Loc X.env.scope x) (hf : X.fn x = true ∨ X.env.scope.names.lookup x = some .local := by first | exact .inl rfl | exact .inr rfl | assumption) : SG X (.Name x pos) (gName i) := ⟨pg_name hN hi hx hf⟩
theorem qgs_nil : SGs X [] gNil := ⟨pgs_nil⟩
theorem qgs_cons {t : TG} {u : TGs} (h1 : SG X e t) (h2 : SGs X es u)
    (hs : (assignEach (e :: es) X.env).map (·.2) = assign e X.env :: (assignEach es X.env).map (·.2) := by rfl) : SGs X (e :: es) (gCons t u) := ⟨pgs_cons h1.h h2.h hs⟩
theorem qg_tup {k : Nat} {t : TGs} {n : Nat} (hc : X.calm = true) (h : SGs X es t)
    (hn : (assignEach es X.env).length = n := by rfl) (hst : (assignEach es X.env).findIdx? (·.1) = none := by rfl) : SG X (.Tuple es k pos) (gTup X.K n t) := ⟨pg_tup hc h.h hn hst⟩
theorem qss_nil : SSs X [] tNext := ⟨pss_nil⟩
theorem qss_cons {t : TS} (h1 : SS X st t) (h2 : SSs X rest u) : SSs X (st :: rest) (tSeq t u) := ⟨pss_cons h1.h h2.h⟩
theorem qss_one {t : TS} (h1 : SS X st t) : SSs X [st] t := ⟨pss_one h1.h⟩
theorem qs_set {i : Nat} (hN : X.N.Nodup) (hi : X.N[i]? = some x) (hx : Loc X.env.scope x) (he : SE X e te) (hs : swapsWith e (some (.Name x pos')) pos.line X.env = pure false := by rfl) (hf : X.fn x = true ∨ X.env.scope.names.lookup x = some .local := by first | exact .inl rfl | exact .inr rfl | assumption) :
    SS X (.Assign [.Name x pos'] e pos) (tAsg te (gName i)) := ⟨ps_set hN hi hx he.h hs hf⟩
theorem qs_asg {g : TG} (he : SE X e te) (hg : SG X tg g) (hs : swapsWithSole [tg] e pos.line X.env = pure false := by rfl) (hw : swappedStores [tg] e X.env = pure none := by rfl)
    (h1 : (assignEach [tg] X.env).map (·.2) = [assign tg X.env] := by rfl) : SS X (.Assign [tg] e pos) (tAsg te g) := ⟨ps_asg he.h hg.h hs hw h1⟩
theorem qs_setComp {i : Nat} (hN : X.N.Nodup) (hx1 : X.N[i]? = some x) (hx : X.env.scope.names.lookup x = some .local) (hc : X.calm = true) (hX : X.env.scope = scX) (S : BlkS scX scope X.N own cap ix) (hi : SI X tg iter wi)
    (hg : ∀ b, SG (blk X scope (own ++ cap) b) tg (g b)) (ht : ∀ b, SIf (blk X scope (own ++ cap) b) ifs (tt b)) (he : ∀ b, SE (blk X scope (own ++ cap) b) elt (tf b)) (hs : ∀ x, foldedSetIterable iter X.env x = pure x := by intro _; rfl)
    (hsw : swapsWith (.ListComp elt [⟨tg, iter, ifs, 0⟩] scope pos) (some (.Name x pos')) spos.line X.env = pure true := by rfl) :
    SS X (.Assign [.Name x pos'] (.ListComp elt [⟨tg, iter, ifs, 0⟩] scope pos) spos) (tAsg (tComp own ix wi g tt tf) (gName i)) := ⟨ps_setComp hN hx1 hx hc hX S hi.h (fun b => (hg b).h) (fun b => (ht b).h) (fun b => (he b).h) hs hsw⟩
theorem qs_ret (he : SE X e te) : SS X (.Return (some e) pos) (tRet te) := ⟨ps_ret he.h⟩
theorem qs_expr (he : SE X e te) (hs : swapsWith e none pos.line X.env = pure false := by rfl) : SS X (.Expr e pos) (tDrop te) := ⟨ps_expr he.h hs⟩
theorem qs_if {bs cs : List Stmt} {tc : TT} {t u : TS} (hc : ST X c tc) (ha : SSs X bs t) (hb : SSs X cs u) : SS X (.If c bs cs pos) (tIfS tc t u) := ⟨ps_if hc.h ha.h hb.h⟩
theorem qs_for {body : List Stmt} {g : TG} {tb : TS} (hp : PassesOwn (model X.prog X.w) X.A X.env X.xe) (hc : X.calm = true) (hi : SI X tg iter wi) (hg : SG X tg g) (hb : SSs X body tb)
    (hs : ∀ x, foldedSetIterable iter X.env x = pure x := by intro _; rfl) : SS X (.For tg iter body [] pos) (tFor wi g tb) := ⟨ps_for hp hc hi.h hg.h hb.h hs⟩
end
end L2
namespace K02
open PySem L2
noncomputable def top (i : Nat) : Stmt := PySem.Challenge.pw_skewbooks_k02_ledgers_of_any_things.main.body.getD i (.Pass ⟨0, 0, 0, 0⟩)
noncomputable abbrev sWhole : Stmt := top 2
noncomputable abbrev sName : Stmt := top 3
noncomputable abbrev sParts : Stmt := top 8
noncomputable abbrev sRising : Stmt := top 9
noncomputable abbrev sNamed : Stmt := top 10
noncomputable abbrev sClock : Stmt := top 11
noncomputable abbrev sRun : Stmt := top 12
noncomputable abbrev sHouse : Stmt := top 13
noncomputable abbrev sRowsIn : Stmt := top 14
noncomputable abbrev sRowNames : Stmt := top 15
noncomputable abbrev sUnlike : Stmt := top 16
noncomputable abbrev sHouses : Stmt := top 17
noncomputable abbrev sLetter : Stmt := top 18
noncomputable abbrev sLetters : Stmt := top 19
noncomputable abbrev sLedger : Stmt := top 20
noncomputable abbrev sMixed : Stmt := top 22
noncomputable abbrev sPack : Stmt := top 23
noncomputable abbrev sTake : Stmt := top 24
noncomputable abbrev sNames : Stmt := top 25
noncomputable abbrev sMkHouse : Stmt := top 26
noncomputable abbrev sMkLetters : Stmt := top 27
noncomputable abbrev sMkLedger : Stmt := top 28
noncomputable abbrev sBent : Stmt := top 29
noncomputable abbrev sRows : Stmt := top 30
noncomputable abbrev sIs : Stmt := top 31
noncomputable abbrev sWide : Stmt := top 32
noncomputable abbrev sLettersOf : Stmt := top 33
noncomputable abbrev sNoHouses : Stmt := top 34
noncomputable abbrev sNoLetters : Stmt := top 35
noncomputable abbrev sAllNone : Stmt := top 36
noncomputable abbrev sLaw : Stmt := top 37
theorem if_join {c : TT} {t e u : TS} {D : Ends} {σ : St} {H : Hp} (N : St → Hp → Prop) (h : ∀ U : St → Hp → Prop, (∀ σ' H', N σ' H' → U σ' H') → tIfS c t e { D with nx := U } σ H) (hN : ∀ σ' H', N σ' H' → u D σ' H') : tSeq (tIfS c t e) u D σ H := h (u D) hN
theorem asg_i {te : TE} {g : TG} {u : TS} {D : Ends} {σ : St} {H : Hp} (h : ∀ U : St → Hp → Prop, U = u D → te σ H fun x H1 => g x σ H1 U) : tSeq (tAsg te g) u D σ H := h (u D) rfl
theorem hideP {G : Prop} (h : ∀ R : Prop, R = G → R) : G := h G rfl
structure Txt (mg : Str → Option Value) (t8 t6 tR tL : Tok) : Prop where
  isi : mg "isinstance" = none
  int : mg "int" = none
  bool : mg "bool" = none
  str : mg "str" = none
  tuple : mg "tuple" = none
  len : mg "len" = none
  all : mg "all" = none
  zip : mg "zip" = none
  set : mg "set" = none
  sorted : mg "sorted" = none
  divmod : mg "divmod" = none
  range : mg "range" = none
  max : mg "max" = none
  min : mg "min" = none
  abs : mg "abs" = none
  list : mg "list" = none
  most : mg "LONGEST_NAME" = some (.int 8 t8)
  mostH : mg "MOST_HOUSES" = some (.int 6 t6)
  mostR : mg "MOST_ROWS" = some (.int 24 tR)
  mostL : mg "MOST_LETTERS" = some (.int 24 tL)
noncomputable def isW : V → Bool
  | .int _ => true
  | _ => false
noncomputable def Thing (K : PySem.W.Frag) (H : Hp) (x : V) : Prop := (∃ T, TyOf K H x (.type T)) ∧ ∀ z, x = .str z → z.length ≤ sizeLine
noncomputable def low (c : Nat) : Bool := 97 ≤ c && c ≤ 122
noncomputable def isN : V → Bool
  | .str z => decide (1 ≤ z.length) && decide (z.length ≤ 8) && z.cps.toList.all low
  | _ => false
noncomputable def spWhole (K : PySem.W.Frag) : Sp := fun vs H Q _ => ∃ x, vs = [x] ∧ Thing K H x ∧ Q (.bl (isW x)) H
noncomputable def spName (K : PySem.W.Frag) : Sp := fun vs H Q _ => ∃ x, vs = [x] ∧ Thing K H x ∧ ∀ H', Same H H' → Q (.bl (isN x)) H'
section
variable {P : Program} {w : World} {K : PySem.W.Frag} {mg : Str → Option Value} {base : Heap} {t8 t6 tR tL : Tok}
theorem scWhole : FnScope ["thing"] ["thing"] (defScope sWhole) := ⟨rfl, rfl, rfl, by decide +kernel, rfl, by decide +kernel, by decide +kernel⟩
theorem isW_ty {H : Hp} {x : V} {T : String} (h : TyOf K H x (.type T)) : (sub8 T "int" && !sub8 T "bool") = isW x := by
  cases h <;> rfl
theorem ok_whole {f : Addr} {fd : FuncData} (F : Fun K "is_whole" "is_whole" sWhole f fd) (T : Txt mg t8 t6 tR tL) : FnOk P w K mg base CX0 1 f fd ["thing"] (spWhole K) := by
  refine F.ok scWhole (fun vs H Q E h => ?_) (fun cdv A outer s H vs Q E hr h => ?_)
  · obtain ⟨x, rfl, _⟩ := h
    rfl
  · obtain ⟨x, rfl, ⟨⟨T', ty⟩, _⟩, q⟩ := h
    refine ⟨_, pss_one (ps_ret (peAnd (pe_callB call_isi rfl T.isi PyProof.Rows.boot_isinstance (pa_cons (pV 0) (pa_cons (pe_bltn (v := .ty "int") rfl T.int PyProof.Rows.boot_int rfl) pa_nil)))
      (pe_one (peNot (pe_callB call_isi rfl T.isi PyProof.Rows.boot_isinstance (pa_cons (pV 0) (pa_cons (pe_bltn (v := .ty "bool") rfl T.bool PyProof.Rows.boot_bool rfl) pa_nil))))))), ?_⟩
    obtain ⟨k1, k2, _, _⟩ := kit8 ty
    have e := isW_ty ty
    refine ⟨x, _, _, _, rfl, ty, k1, ?_⟩
    cases q1 : sub8 T' "int" with
    | false =>
      rw [q1] at e
      rw [← e] at q
      exact q
    | true =>
      rw [q1] at e
      refine ⟨x, _, _, _, rfl, ty, k2, ?_⟩
      show Q (.bl (!sub8 T' "bool")) H
      rw [← e] at q
      simpa using q
theorem scName : FnScope ["thing"] ["thing"] (defScope sName) := ⟨rfl, rfl, rfl, by decide +kernel, rfl, by decide +kernel, by decide +kernel⟩
theorem low_of (c : Nat) : (!decide ((⟨#[c]⟩ : Str).cps.toList < ("a" : Str).cps.toList)) = decide (97 ≤ c) ∧ (!decide (("z" : Str).cps.toList < (⟨#[c]⟩ : Str).cps.toList)) = decide (c ≤ 122) := by
  have ea : ("a" : Str).cps.toList = [97] := by decide +kernel
  have ez : ("z" : Str).cps.toList = [122] := by decide +kernel
  have es : (⟨#[c]⟩ : Str).cps.toList = [c] := rfl
  rw [ea, ez, es]
  constructor
  · rw [Bool.eq_iff_iff]; simp [lt1]
  · rw [Bool.eq_iff_iff]; simp [lt1]
theorem ok_name {f : Addr} {fd : FuncData} (F : Fun K "is_name" "is_name" sName f fd) (T : Txt mg t8 t6 tR tL) : FnOk P w K mg base CX0 1 f fd ["thing"] (spName K) := by
  refine F.ok scName (fun vs H Q E h => ?_) (fun cdv A outer s H vs Q E hr h => ?_)
  · obtain ⟨x, rfl, _⟩ := h
    rfl
  · obtain ⟨x, rfl, ⟨⟨T', ty⟩, hz⟩, q⟩ := h
    refine ⟨_, pss_cons (ps_if (ptOr (pt_not (ptV (pe_callB call_isi rfl T.isi PyProof.Rows.boot_isinstance (pa_cons (pV 0) (pa_cons (pe_bltn (v := .ty "str") rfl T.str PyProof.Rows.boot_str rfl) pa_nil)))))
        (pw_or1 (pt_not (ptCh oLe oLe pe_int (pe_callB call_len_str rfl T.len PySem.boot_len (pa_cons (pV 0) pa_nil)) (pe_glob (v := .int 8) rfl T.most ⟨_, rfl⟩))))) (pss_one (ps_ret pe_bl)) pss_nil)
      (pss_one (ps_ret (pe_callB (call_all rfl) rfl T.all PyProof.Rows.boot_all (pa_cons (pe_comp (scX := defScope sName) (own := ["sign"]) (cap := []) (ix := []) rfl rfl ⟨rfl, by decide +kernel, by decide +kernel, by decide +kernel, rfl, by decide +kernel⟩
        (pi_str (pV 0)) (fun b => pg_name (i := 0) (show (["sign"] : List Str).Nodup by decide +kernel) rfl (Or.inl rfl)) (fun b => pif_nil) (fun b => peCh oLeS oLeS pe_str (pV 0) pe_str)) pa_nil)))), ?_⟩
    obtain ⟨_, _, k3, _⟩ := kit8 ty
    refine ⟨x, _, _, _, rfl, ty, k3, ?_⟩
    cases q1 : sub8 T' "str" with
    | false =>
      have e : isN x = false := by cases ty <;> first | rfl | exact absurd q1 (by decide)
      rw [e] at q
      exact q H (Same.refl H)
    | true =>
      obtain ⟨z, rfl⟩ : ∃ z, x = .str z := by cases ty <;> first | exact ⟨_, rfl⟩ | exact absurd q1 (by decide)
      have hz' := hz z rfl
      refine ⟨z, rfl, hz', ?_⟩
      refine ite2 (fun h1 => ?_) (fun h1 => ?_)
      · have h1' : 1 ≤ z.length := by have := of_decide_eq_true h1; omega
        refine ite2 (fun h2 => ?_) (fun h2 => ?_)
        · have e : isN (.str z) = false := by
            have h2' : ¬ z.length ≤ 8 := by
              intro h
              have : decide ((z.length : Int) ≤ 8) = true := decide_eq_true (by omega)
              rw [this] at h2; cases h2
            simp [isN, h2']
          rw [e] at q
          exact q H (Same.refl H)
        · have h2' : z.length ≤ 8 := by
            have : ¬ ¬ (z.length : Int) ≤ 8 := fun h => h2 (by rw [decide_eq_false h]; rfl)
            omega
          refine ⟨z, rfl, fun D hD => comp_str (fun i H' => Grow H H' D ((z.cps.toList.take i).map fun c => V.bl (low c))) (Grow.start hD) (fun H' G => ?_) (fun i c H' hc hi G b => ?_)⟩
          · refine ⟨D, z.cps.toList.map low, rfl, SqL.of (by rw [G.at', take_all (by simp), List.map_map]; rfl), ?_⟩
            have e : isN (.str z) = (z.cps.toList.map low).all id := by
              simp [isN, h1', h2', List.all_map]
            rw [e] at q
            exact q H' G.same
          · have hl := low_of c
            have sz : z.cps.size ≤ sizeLine := hz'
            have fin : ∀ (k : Bool), k = low c → Nx z.cps.size i (fun i H' => Grow H H' D ((z.cps.toList.take i).map fun c => V.bl (low c))) (upd H' D (.lst ((z.cps.toList.take i).map (fun c => V.bl (low c)) ++ [.bl k]))) := fun k hk => by
              subst hk
              refine nx hi ?_
              show Grow H _ D ((z.cps.toList.take (i + 1)).map fun c => V.bl (low c))
              rw [take_map (cps_get hc)]
              exact G.put hD _
            refine ite2 (fun h3 => ?_) (fun h3 => ?_)
            · refine ⟨_, G.at', len_take hi sz, fin _ ?_⟩
              have h3' : decide (97 ≤ c) = true := hl.1.symm.trans h3
              show (!decide (("z" : Str).cps.toList < (⟨#[c]⟩ : Str).cps.toList)) = low c
              rw [hl.2]
              simp [low, of_decide_eq_true h3']
            · refine ⟨_, G.at', len_take hi sz, fin _ ?_⟩
              have h3' : ¬ 97 ≤ c := fun h => h3 (hl.1.trans (decide_eq_true h))
              simp [low, h3']
      · have e : isN (.str z) = false := by
          have h1' : ¬ 1 ≤ z.length := by
            intro h
            exact h1 (decide_eq_true (by omega))
          simp [isN, h1']
        rw [e] at q
        exact q H (Same.refl H)
end
end K02
namespace K02
open PySem L2
structure Good (z : Str) : Prop where
  lo : 1 ≤ z.length
  hi : z.length ≤ 8
  all : ∀ c ∈ z.cps.toList, low c = true
theorem Good.isN {z : Str} (g : Good z) : K02.isN (.str z) = true := by
  have h : z.cps.toList.all low = true := List.all_eq_true.mpr g.all
  simp [K02.isN, g.lo, g.hi, h]
noncomputable abbrev Row := Str × Int
structure House where
  name : Str
  low : Int
  high : Int
  drift : Int
  runs : List (List Row)
noncomputable abbrev Letter := (Str × Str) × Int × Option Int
noncomputable def mostV : Option Int → V
  | none => .non
  | some i => .int i
noncomputable def RowAt (H : Hp) (v : V) (r : Row) : Prop := ∃ a, v = .ref a ∧ H a = some (.tup [.str r.1, .int r.2])
noncomputable def RunAt (H : Hp) (v : V) (rs : List Row) : Prop := ∃ a vs, v = .ref a ∧ H a = some (.tup vs) ∧ Paired (RowAt H) vs rs
noncomputable def RunsAt (H : Hp) (v : V) (rs : List (List Row)) : Prop := ∃ a vs, v = .ref a ∧ H a = some (.tup vs) ∧ Paired (RunAt H) vs rs
noncomputable def HouseAt (H : Hp) (v : V) (h : House) : Prop := ∃ a b, v = .ref a ∧ H a = some (.tup [.str h.name, .int h.low, .int h.high, .int h.drift, b]) ∧ RunsAt H b h.runs
noncomputable def HousesAt (H : Hp) (v : V) (hs : List House) : Prop := ∃ a vs, v = .ref a ∧ H a = some (.tup vs) ∧ Paired (HouseAt H) vs hs
noncomputable def LetterAt (H : Hp) (v : V) (l : Letter) : Prop := ∃ a, v = .ref a ∧ H a = some (.tup [.str l.1.1, .str l.1.2, .int l.2.1, mostV l.2.2])
noncomputable def LettersAt (H : Hp) (v : V) (ls : List Letter) : Prop := ∃ a vs, v = .ref a ∧ H a = some (.tup vs) ∧ Paired (LetterAt H) vs ls
noncomputable def LedgerAt (H : Hp) (v : V) (hs : List House) (ls : List Letter) : Prop := ∃ a x y, v = .ref a ∧ H a = some (.tup [x, y]) ∧ HousesAt H x hs ∧ LettersAt H y ls
section
variable {H H' : Hp} {v : V} (s : Tups H H')
include s
theorem RowAt.ts {r : Row} (h : RowAt H v r) : RowAt H' v r := let ⟨a, e, g⟩ := h; ⟨a, e, s _ _ g⟩
theorem RunAt.ts {r : List Row} (h : RunAt H v r) : RunAt H' v r := let ⟨a, vs, e, g, p⟩ := h; ⟨a, vs, e, s _ _ g, paired_mono (fun _ _ q => RowAt.ts s q) p⟩
theorem RunsAt.ts {r : List (List Row)} (h : RunsAt H v r) : RunsAt H' v r := let ⟨a, vs, e, g, p⟩ := h; ⟨a, vs, e, s _ _ g, paired_mono (fun _ _ q => RunAt.ts s q) p⟩
theorem HouseAt.ts {r : House} (h : HouseAt H v r) : HouseAt H' v r := let ⟨a, b, e, g, p⟩ := h; ⟨a, b, e, s _ _ g, RunsAt.ts s p⟩
theorem HousesAt.ts {r : List House} (h : HousesAt H v r) : HousesAt H' v r := let ⟨a, vs, e, g, p⟩ := h; ⟨a, vs, e, s _ _ g, paired_mono (fun _ _ q => HouseAt.ts s q) p⟩
theorem LetterAt.ts {r : Letter} (h : LetterAt H v r) : LetterAt H' v r := let ⟨a, e, g⟩ := h; ⟨a, e, s _ _ g⟩
theorem LettersAt.ts {r : List Letter} (h : LettersAt H v r) : LettersAt H' v r := let ⟨a, vs, e, g, p⟩ := h; ⟨a, vs, e, s _ _ g, paired_mono (fun _ _ q => LetterAt.ts s q) p⟩
end
structure GoodRun (rs : List Row) : Prop where
  ne : rs ≠ []
  few : rs.length ≤ 25
  names : ∀ r ∈ rs, Good r.1
  rise : (rs.map Prod.snd).Pairwise (· < ·)
structure GoodHouse (h : House) : Prop where
  name : Good h.name
  wide : h.low ≤ h.high
  drift : 0 ≤ h.drift
  few : h.runs.length ≤ 25
  runs : ∀ r ∈ h.runs, GoodRun r
noncomputable def rowsH (h : House) : List Row := h.runs.flatten
noncomputable def namesH (h : House) : List Str := (rowsH h).map Prod.fst
noncomputable def namesOf (hs : List House) : List Str := hs.flatMap namesH
structure GoodHouses (hs : List House) : Prop where
  lo : 1 ≤ hs.length
  hi : hs.length ≤ 6
  all : ∀ h ∈ hs, GoodHouse h
  names : (hs.map House.name).Nodup
  rows : (namesOf hs).Nodup
  few : (namesOf hs).length ≤ 24
structure GoodLetter (hs : List House) (l : Letter) : Prop where
  sent : Good l.1.1
  taken : Good l.1.2
  least : 1 ≤ l.2.1
  most : ∀ m, l.2.2 = some m → l.2.1 ≤ m
  houses : ∃ h1 ∈ hs, ∃ h2 ∈ hs, l.1.1 ∈ namesH h1 ∧ l.1.2 ∈ namesH h2 ∧ h1.name ≠ h2.name
structure GoodLetters (hs : List House) (ls : List Letter) : Prop where
  few : ls.length ≤ 24
  all : ∀ l ∈ ls, GoodLetter hs l
  rise : (ls.map Prod.fst).Pairwise (fun a b => plt a b = true)
end K02
namespace K02
open PySem L2
inductive Da where
  | non | bl (b : Bool) | int (i : Int) | str (z : Str) | tup (xs : List Da) | oth
mutual
inductive DaAt (H : Hp) : V → Da → Prop
  | non : DaAt H .non .non
  | bl (b : Bool) : DaAt H (.bl b) (.bl b)
  | int (i : Int) : DaAt H (.int i) (.int i)
  | str (z : Str) (h : z.length ≤ sizeLine) : DaAt H (.str z) (.str z)
  | tup {a : Addr} {vs : List V} {xs : List Da} : H a = some (.tup vs) → vs.length ≤ 25 → DaAs H vs xs → DaAt H (.ref a) (.tup xs)
  | lst {a : Addr} {vs : List V} : H a = some (.lst vs) → DaAt H (.ref a) .oth
  | dic {a : Addr} {kvs : List (Key × V)} : H a = some (.dK kvs) → DaAt H (.ref a) .oth
inductive DaAs (H : Hp) : List V → List Da → Prop
  | nil : DaAs H [] []
  | cons {v : V} {vs : List V} {x : Da} {xs : List Da} : DaAt H v x → DaAs H vs xs → DaAs H (v :: vs) (x :: xs)
end
mutual
theorem DaAt.same {H H' : Hp} (s : Same H H') : ∀ {v : V} {d : Da}, DaAt H v d → DaAt H' v d
  | _, _, .non => .non
  | _, _, .bl b => .bl b
  | _, _, .int i => .int i
  | _, _, .str z h => .str z h
  | _, _, .tup h l r => .tup (s _ _ h) l (DaAs.same s r)
  | _, _, .lst h => .lst (s _ _ h)
  | _, _, .dic h => .dic (s _ _ h)
theorem DaAs.same {H H' : Hp} (s : Same H H') : ∀ {v : List V} {d : List Da}, DaAs H v d → DaAs H' v d
  | _, _, .nil => .nil
  | _, _, .cons h r => .cons (DaAt.same s h) (DaAs.same s r)
end
theorem DaAs.len {H : Hp} : ∀ {vs : List V} {xs : List Da}, DaAs H vs xs → vs.length = xs.length
  | _, _, .nil => rfl
  | _, _, .cons _ r => by rw [List.length_cons, List.length_cons, r.len]
theorem DaAs.get {H : Hp} : ∀ {vs : List V} {xs : List Da}, DaAs H vs xs → ∀ {i : Nat} {v : V}, vs[i]? = some v → ∃ x, xs[i]? = some x ∧ DaAt H v x
  | _, _, .nil, i, v, e => by simp at e
  | _, _, .cons h r, i, v, e => by
    cases i with
    | zero => cases (show some _ = some v from e); exact ⟨_, rfl, h⟩
    | succ i => exact r.get (by simpa using e)
theorem DaAs.inv {H : Hp} {vs : List V} {x : Da} {xs : List Da} (h : DaAs H vs (x :: xs)) : ∃ v r, vs = v :: r ∧ DaAt H v x ∧ DaAs H r xs := by
  cases h with
  | cons h r => exact ⟨_, _, rfl, h, r⟩
theorem DaAs.inv0 {H : Hp} {vs : List V} (h : DaAs H vs []) : vs = [] := by cases h; rfl
theorem DaAs.one1 {H : Hp} {vs : List V} {a : Da} (h : DaAs H vs [a]) : ∃ v1, vs = [v1] ∧ DaAt H v1 a := by
  obtain ⟨v, r, rfl, h1, h2⟩ := h.inv
  obtain rfl := h2.inv0
  exact ⟨_, rfl, h1⟩
theorem DaAs.two {H : Hp} {vs : List V} {a b : Da} (h : DaAs H vs [a, b]) : ∃ v1 v2, vs = [v1, v2] ∧ DaAt H v1 a ∧ DaAt H v2 b := by
  obtain ⟨v, r, rfl, h1, h2⟩ := h.inv
  obtain ⟨w, rfl, h3⟩ := h2.one1
  exact ⟨_, _, rfl, h1, h3⟩
theorem DaAs.four {H : Hp} {vs : List V} {a b c d : Da} (h : DaAs H vs [a, b, c, d]) : ∃ v1 v2 v3 v4, vs = [v1, v2, v3, v4] ∧ DaAt H v1 a ∧ DaAt H v2 b ∧ DaAt H v3 c ∧ DaAt H v4 d := by
  obtain ⟨v, r, rfl, h1, h2⟩ := h.inv
  obtain ⟨w, r, rfl, h3, h4⟩ := h2.inv
  obtain ⟨x, y, rfl, h5, h6⟩ := h4.two
  exact ⟨_, _, _, _, rfl, h1, h3, h5, h6⟩
theorem DaAs.five {H : Hp} {vs : List V} {a b c d e : Da} (h : DaAs H vs [a, b, c, d, e]) : ∃ v1 v2 v3 v4 v5, vs = [v1, v2, v3, v4, v5] ∧ DaAt H v1 a ∧ DaAt H v2 b ∧ DaAt H v3 c ∧ DaAt H v4 d ∧ DaAt H v5 e := by
  obtain ⟨v, r, rfl, h1, h2⟩ := h.inv
  obtain ⟨w, x, y, z, rfl, h3, h4, h5, h6⟩ := h2.four
  exact ⟨_, _, _, _, _, rfl, h1, h3, h4, h5, h6⟩
theorem len_inv {n : Nat} {xs : List Da} (h : xs.length = n + 1) : ∃ x r, xs = x :: r ∧ r.length = n := by
  cases xs with
  | nil => cases h
  | cons x r => exact ⟨x, r, rfl, Nat.succ.inj h⟩
theorem len2 {xs : List Da} (h : xs.length = 2) : ∃ a b, xs = [a, b] := by
  obtain ⟨a, r1, rfl, h1⟩ := len_inv h
  obtain ⟨b, r2, rfl, h2⟩ := len_inv h1
  obtain rfl := List.eq_nil_of_length_eq_zero h2
  exact ⟨a, b, rfl⟩
theorem len4 {xs : List Da} (h : xs.length = 4) : ∃ a b c d, xs = [a, b, c, d] := by
  obtain ⟨a, r1, rfl, h1⟩ := len_inv h
  obtain ⟨b, r2, rfl, h2⟩ := len_inv h1
  obtain ⟨c, d, rfl⟩ := len2 h2
  exact ⟨a, b, c, d, rfl⟩
theorem len5 {xs : List Da} (h : xs.length = 5) : ∃ a b c d e, xs = [a, b, c, d, e] := by
  obtain ⟨a, r1, rfl, h1⟩ := len_inv h
  obtain ⟨b, c, d, e, rfl⟩ := len4 h1
  exact ⟨a, b, c, d, e, rfl⟩
theorem DaAt.tupE {H : Hp} {v : V} {xs : List Da} (h : DaAt H v (.tup xs)) : ∃ a vs, v = .ref a ∧ H a = some (.tup vs) ∧ vs.length ≤ 25 ∧ DaAs H vs xs := by
  cases h with
  | tup h l r => exact ⟨_, _, rfl, h, l, r⟩
noncomputable def isTupD : Da → Bool
  | .tup _ => true
  | _ => false
noncomputable def isWD : Da → Bool
  | .int _ => true
  | _ => false
noncomputable def isND : Da → Bool
  | .str z => isN (.str z)
  | _ => false
noncomputable def intD : Da → Int
  | .int i => i
  | _ => 0
noncomputable def partsD (d : Da) (n : Nat) : Bool := match d with
  | .tup xs => decide (xs.length = n)
  | _ => false
noncomputable def namedD : Da → Bool
  | .tup [a, b] => isND a && isWD b
  | _ => false
noncomputable def sndD : Da → Da
  | .tup [_, b] => b
  | _ => .non
noncomputable def pairsL {α : Type} (xs : List α) : List (α × α) := xs.zip (xs.drop 1)
noncomputable def riseI (is : List Int) : Bool := (pairsL is).all fun p => decide (p.1 < p.2)
noncomputable def riseP (ks : List (Str × Str)) : Bool := (pairsL ks).all fun p => plt p.1 p.2
noncomputable def runD : Da → Bool
  | .tup xs => !xs.isEmpty && (xs.all namedD && riseI (xs.map fun x => intD (sndD x)))
  | _ => false
noncomputable def clockD (n l h d : Da) : Bool := isND n && ((isWD l && (isWD h && isWD d)) && (decide (intD l ≤ intD h) && decide (0 ≤ intD d)))
noncomputable def runsD : Da → Bool
  | .tup rs => rs.all runD
  | _ => false
noncomputable def houseD : Da → Bool
  | .tup [n, l, h, d, r] => clockD n l h d && runsD r
  | _ => false
noncomputable def mostD (l : Int) : Da → Bool
  | .non => true
  | .int i => decide (l ≤ i)
  | _ => false
noncomputable def letterD : Da → Bool
  | .tup [s, t, l, m] => isND s && (isND t && (isWD l && (decide (1 ≤ intD l) && mostD (intD l) m)))
  | _ => false
theorem named_form {y : Da} (h : namedD y = true) : ∃ z j, y = .tup [.str z, .int j] ∧ isN (.str z) = true := by
  unfold namedD at h
  split at h
  · rename_i a b
    obtain ⟨h1, h2⟩ := Bool.and_eq_true_iff.mp h
    cases b with
    | int j =>
      cases a with
      | str z => exact ⟨z, j, rfl, h1⟩
      | _ => cases h1
    | _ => cases h2
  · cases h
theorem DaAt.kind {K : PySem.W.Frag} {H : Hp} {v : V} {d : Da} (h : DaAt H v d) : Thing K H v ∧ (∃ T, TyOf K H v (.type T) ∧ PySem.W.kitOne K (.type T) (.type "tuple") = some (isTupD d)) ∧ isW v = isWD d ∧ isN v = isND d := by
  cases h with
  | non => exact ⟨⟨⟨_, .non⟩, fun z e => by cases e⟩, ⟨_, .non, (kit8 (K := K) (TyOf.non (H := H))).2.2.2⟩, rfl, rfl⟩
  | bl b => exact ⟨⟨⟨_, .bl b⟩, fun z e => by cases e⟩, ⟨_, .bl b, (kit8 (K := K) (TyOf.bl (H := H) b)).2.2.2⟩, rfl, rfl⟩
  | int i => exact ⟨⟨⟨_, .int i⟩, fun z e => by cases e⟩, ⟨_, .int i, (kit8 (K := K) (TyOf.int (H := H) i)).2.2.2⟩, rfl, rfl⟩
  | str z hz => exact ⟨⟨⟨_, .str z⟩, fun y e => by cases e; exact hz⟩, ⟨_, .str z, (kit8 (K := K) (TyOf.str (H := H) z)).2.2.2⟩, rfl, rfl⟩
  | tup e l r => exact ⟨⟨⟨_, .tup e⟩, fun z e => by cases e⟩, ⟨_, .tup e, (kit8 (K := K) (TyOf.tup e)).2.2.2⟩, rfl, rfl⟩
  | lst e => exact ⟨⟨⟨_, .lst e⟩, fun z e => by cases e⟩, ⟨_, .lst e, (kit8 (K := K) (TyOf.lst e)).2.2.2⟩, rfl, rfl⟩
  | dic e => exact ⟨⟨⟨_, .dK e⟩, fun z e => by cases e⟩, ⟨_, .dK e, (kit8 (K := K) (TyOf.dK e)).2.2.2⟩, rfl, rfl⟩
noncomputable def spD (f : Da → Bool) : Sp := fun vs H Q _ => ∃ (x : V) (d : Da), vs = [x] ∧ DaAt H x d ∧ ∀ H', Same H H' → Q (.bl (f d)) H'
noncomputable def spParts : Sp := fun vs H Q _ => ∃ (x : V) (d : Da) (n : Nat), vs = [x, .int (n : Int)] ∧ DaAt H x d ∧ Q (.bl (partsD d n)) H
noncomputable def spClock : Sp := fun vs H Q _ => ∃ (x0 x1 x2 x3 : V) (d0 d1 d2 d3 : Da), vs = [x0, x1, x2, x3] ∧ DaAt H x0 d0 ∧ DaAt H x1 d1 ∧ DaAt H x2 d2 ∧ DaAt H x3 d3 ∧ ∀ H', Same H H' → Q (.bl (clockD d0 d1 d2 d3)) H'
noncomputable def RiseV (H : Hp) (xs : List V) (b : Bool) : Prop := (∃ is : List Int, xs = is.map V.int ∧ b = riseI is) ∨ ∃ (as : List Addr) (ks : List (Str × Str)), xs = as.map V.ref ∧ Paired (fun a k => H a = some (.tup ((kP k).map kV))) as ks ∧ b = riseP ks
noncomputable def spRising : Sp := fun vs H Q _ => ∃ (a : Addr) (xs : List V) (b : Bool), vs = [.ref a] ∧ H a = some (.lst xs) ∧ xs.length ≤ 60 ∧ RiseV H xs b ∧ ∀ H', Same H H' → Q (.bl b) H'
theorem sql_same {K : PySem.W.Frag} {H H' : Hp} {a : Addr} {xs : List V} (s : Same H H') (h : SqL K H a xs) : SqL K H' a xs := by
  rcases h with (h | ⟨o, h⟩) | h
  · exact .inl (.inl (s _ _ h))
  · exact .inl (.inr ⟨o, s _ _ h⟩)
  · exact .inr h
structure LtA (K : PySem.W.Frag) (x y : V) (H : Hp) (Q : VK) : Prop where
  h : rLtIP K x y H Q
theorem oLtA {X : Cx} (hu : X.A.units < cLine) : OpR X (compareOp .Lt) (LtA X.K) := fun pins s σ H x y v u Q I rx ry h => op_ltIP hu pins s σ H x y v u Q I rx ry h.h
theorem pairsL_len {α : Type} (xs : List α) : (pairsL xs).length = xs.length - 1 := by unfold pairsL; rw [List.length_zip, List.length_drop]; omega
theorem pairsL_get {α : Type} {xs : List α} {i : Nat} {x y : α} (hx : xs[i]? = some x) (hy : xs[i + 1]? = some y) : (pairsL xs)[i]? = some (x, y) := by
  unfold pairsL
  exact PyProof.Rows.zip_get hx (by rw [List.getElem?_drop, Nat.add_comm]; exact hy)
theorem RiseV.bools {H : Hp} {xs : List V} {b : Bool} (h : RiseV H xs b) : ∃ bs : List Bool, bs.length = xs.length - 1 ∧ bs.all id = b ∧ ∀ {K : PySem.W.Frag} {i : Nat} {x y : V} {H' : Hp} {Q : VK}, xs[i]? = some x → xs[i + 1]? = some y → Same H H' → (∀ c, bs[i]? = some c → Q (.bl c) H') → LtA K x y H' Q := by
  rcases h with ⟨is, rfl, rfl⟩ | ⟨as, ks, rfl, pr, rfl⟩
  · refine ⟨(pairsL is).map fun p => decide (p.1 < p.2), by rw [List.length_map, pairsL_len, List.length_map], by unfold riseI; rw [List.all_map]; rfl, fun {K i x y H' Q} hx hy s q => ?_⟩
    rw [List.getElem?_map] at hx hy
    cases e1 : is[i]? with
    | none => rw [e1] at hx; cases hx
    | some j =>
      cases e2 : is[i + 1]? with
      | none => rw [e2] at hy; cases hy
      | some k =>
        rw [e1] at hx; rw [e2] at hy
        exact ⟨.inl ⟨j, k, (Option.some.inj hx).symm, (Option.some.inj hy).symm, q _ (by rw [List.getElem?_map, pairsL_get e1 e2]; rfl)⟩⟩
  · refine ⟨(pairsL ks).map fun p => plt p.1 p.2, by rw [List.length_map, pairsL_len, List.length_map, pr.length], by unfold riseP; rw [List.all_map]; rfl, fun {K i x y H' Q} hx hy s q => ?_⟩
    rw [List.getElem?_map] at hx hy
    cases e1 : as[i]? with
    | none => rw [e1] at hx; cases hx
    | some j =>
      cases e2 : as[i + 1]? with
      | none => rw [e2] at hy; cases hy
      | some k =>
        rw [e1] at hx; rw [e2] at hy
        obtain ⟨k1, g1, h1⟩ := paired_getL pr e1
        obtain ⟨k2, g2, h2⟩ := paired_getL pr e2
        exact ⟨.inr ⟨j, k, k1, k2, (Option.some.inj hx).symm, (Option.some.inj hy).symm, SqT.of (s _ _ h1), SqT.of (s _ _ h2), q _ (by rw [List.getElem?_map, pairsL_get g1 g2]; rfl)⟩⟩
theorem all_of (xs : List Da) (f : Da → Bool) : (xs.map f).all id = xs.all f := by rw [List.all_map]; rfl
section
variable {P : Program} {w : World} {K : PySem.W.Frag} {mg : Str → Option Value} {base : Heap} {t8 t6 tR tL : Tok}
theorem sc_parts : FnScope ["thing", "many"] ["thing", "many"] (defScope sParts) := ⟨rfl, rfl, rfl, by decide +kernel, rfl, by decide +kernel, by decide +kernel⟩
theorem ok_parts {f : Addr} {fd : FuncData} (F : Fun K "has_parts" "has_parts" sParts f fd) (T : Txt mg t8 t6 tR tL) : FnOk P w K mg base CX0 1 f fd ["thing", "many"] spParts := by
  refine F.ok sc_parts (fun vs H Q E h => ?_) (fun cdv A outer s H vs Q E hr h => ?_)
  · obtain ⟨x, d, n, rfl, _⟩ := h
    rfl
  · obtain ⟨x, d, n, rfl, hd, q⟩ := h
    obtain ⟨_, ⟨T', ty, kt⟩, _⟩ := hd.kind (K := K)
    refine ⟨_, (pss_one (ps_ret (peAnd (pe_callB call_isi rfl T.isi PyProof.Rows.boot_isinstance (pa_cons (pV 0) (pa_cons (pe_bltn (v := .ty "tuple") rfl T.tuple PyProof.Rows.boot_tuple rfl) pa_nil))) (pe_one (pe_cmpR oEq (pe_callB call_len_seq rfl T.len PySem.boot_len (pa_cons (pV 0) pa_nil)) (pV 1) (nomark _)))))), ?_⟩
    refine ⟨_, _, _, _, rfl, ty, kt, ?_⟩
    cases d with
    | tup xs =>
      refine hideP fun Rz0 hRz0 => ?_
      obtain ⟨a, vs, ez1, ha, l60, r⟩ := hd.tupE
      subst hRz0
      subst ez1
      refine ⟨a, vs, rfl, .inr (SqT.of ha), ?_⟩
      show Q (.bl (decide ((vs.length : Int) = (n : Int)))) H
      have e : decide ((vs.length : Int) = (n : Int)) = decide (xs.length = n) := by
        rw [r.len, Bool.eq_iff_iff, decide_eq_true_iff, decide_eq_true_iff]; omega
      rw [e]; exact q
    | _ => exact q
theorem sc_rising : FnScope ["values"] ["values"] (defScope sRising) := ⟨rfl, rfl, rfl, by decide +kernel, rfl, by decide +kernel, by decide +kernel⟩
theorem ok_rising {f : Addr} {fd : FuncData} (F : Fun K "is_rising" "is_rising" sRising f fd) (T : Txt mg t8 t6 tR tL) : FnOk P w K mg base CX0 1 f fd ["values"] spRising := by
  refine F.ok sc_rising (fun vs H Q E h => ?_) (fun cdv A outer s H vs Q E hr h => ?_)
  · obtain ⟨a, xs, b, rfl, _⟩ := h
    rfl
  · obtain ⟨a, xs, bb, rfl, ha, few, rise, q⟩ := h
    have sl0 : sizeLine = 16777216 := sizeLine_eq
    refine ⟨_, (pss_one (ps_ret (pe_callB (call_all rfl) rfl T.all PyProof.Rows.boot_all (pa_cons (pe_comp (scX := defScope sRising) (own := ["value", "later"]) (cap := []) (ix := []) rfl rfl ⟨rfl, by decide +kernel, by decide +kernel, by decide +kernel, rfl, by decide +kernel⟩ (pi_zip rfl T.zip (pa_cons (pV 0) (pa_cons (pe_slice sl_list (pV 0) (poI pe_int) po_none) pa_nil))) (fun b => (pg_tup rfl (pgs_cons (pg_name (i := 0) (show (["value", "later"] : List Str).Nodup by decide +kernel) rfl (Or.inl rfl)) (pgs_cons (pg_name (i := 1) (show (["value", "later"] : List Str).Nodup by decide +kernel) rfl (Or.inl rfl)) pgs_nil)))) (fun b => pif_nil) (fun b => (pe_cmpR (oLtA hr.units0) (pV 0) (pV 1) (nomark _)))) pa_nil)))), ?_⟩
    refine ⟨a, xs, rfl, SqL.of ha, fun p hp => ?_⟩
    have e1 : cutV xs (some 1) none = xs.drop 1 := by
      unfold cutV
      rw [HT.sIx_none, show (some 1 : Option Int) = some ((1 : Nat) : Int) from rfl, HT.sIx_nat]
      rcases Nat.lt_or_ge 0 xs.length with z | z
      · rw [Nat.min_eq_left z, List.take_of_length_le (by rw [List.length_drop]; omega)]
      · have : xs = [] := List.eq_nil_of_length_eq_zero (by omega)
        subst this; rfl
    rw [e1]
    have s1 : Same H (upd H p (.lst (xs.drop 1))) := (Same.refl H).upd hp
    refine hideP fun Rz0 hRz0 => ?_
    obtain ⟨bs, lb, eb, ask⟩ := rise.bools
    subst hRz0
    refine ⟨a, p, xs, xs.drop 1, rfl, SqL.of (s1 _ _ ha), SqL.of upd_same, fun D hD => ?_⟩
    have lp : (xs.drop 1).length = xs.length - 1 := List.length_drop
    refine comp_by (xs.drop 1).length (fun i H' => Grow (upd H p (.lst (xs.drop 1))) H' D ((bs.take i).map V.bl)) (Grow.start hD) (fun H' G => ⟨⟨SqL.of (G.same _ _ (s1 _ _ ha)), SqL.of (G.same _ _ upd_same), .inr (Nat.le_refl _)⟩, ?_⟩) (fun i H' hi G => ⟨⟨SqL.of (G.same _ _ (s1 _ _ ha)), SqL.of (G.same _ _ upd_same), by omega, hi⟩, fun x H2 y b => ?_⟩)
    · refine ⟨D, bs, rfl, SqL.of (by have e := G.at'; rw [List.take_of_length_le (by omega)] at e; exact e), ?_⟩
      rw [eb]
      exact q H' (s1.trans G.same)
    · refine hideP fun Rz0 hRz0 => ?_
      obtain ⟨t, u, v, ht, ez2, hu', hv, ez3⟩ := y
      subst hRz0
      subst ez2
      subst ez3
      have s2 : Same H' (upd H' t (.tup [u, v])) := (Same.refl H').upd ht
      have G2 := G.more s2
      refine ⟨t, [u, v], rfl, SqT.of upd_same, rfl, u, [v], rfl, v, [], rfl, rfl, ?_⟩
      refine ask hu' (by rw [List.getElem?_drop, Nat.add_comm] at hv; exact hv) (s1.trans G2.same) fun c hc => ?_
      refine ⟨_, G2.at', by rw [List.length_map, List.length_take]; omega, nx hi ?_⟩
      show Grow _ _ D ((bs.take (i + 1)).map V.bl)
      rw [List.take_add_one, hc, List.map_append]
      exact G2.put hD _
theorem sc_named : FnScope ["thing"] ["thing"] (defScope sNamed) := ⟨rfl, rfl, rfl, by decide +kernel, rfl, by decide +kernel, by decide +kernel⟩
theorem ok_named {f f_parts f_name f_whole : Addr} {fd fd_parts fd_name fd_whole : FuncData} (F : Fun K "is_named_number" "is_named_number" sNamed f fd)
    (G_parts : FnOk P w K mg base CX0 1 f_parts fd_parts ["thing", "many"] spParts) (m_parts : mg "has_parts" = some (.ref f_parts)) (k_parts : PySem.W.keepIn K (.ref f_parts) = true) (b_parts : Binds K fd_parts ["thing", "many"] [])
    (G_name : FnOk P w K mg base CX0 1 f_name fd_name ["thing"] (spName K)) (m_name : mg "is_name" = some (.ref f_name)) (k_name : PySem.W.keepIn K (.ref f_name) = true) (b_name : Binds K fd_name ["thing"] [])
    (G_whole : FnOk P w K mg base CX0 1 f_whole fd_whole ["thing"] (spWhole K)) (m_whole : mg "is_whole" = some (.ref f_whole)) (k_whole : PySem.W.keepIn K (.ref f_whole) = true) (b_whole : Binds K fd_whole ["thing"] []) : FnOk P w K mg base CX0 2 f fd ["thing"] (spD namedD) := by
  refine F.ok sc_named (fun vs H Q E h => ?_) (fun cdv A outer s H vs Q E hr h => ?_)
  · obtain ⟨x, d, rfl, _⟩ := h
    rfl
  · obtain ⟨x, d, rfl, hd, q⟩ := h
    refine ⟨_, (pss_one (ps_ret (peAnd (pe_call G_parts hr rfl m_parts k_parts b_parts .nil pass0 (pa_cons (pV 0) (pa_cons pe_int pa_nil))) (peAnd (pe_call G_name hr rfl m_name k_name b_name .nil pass0 (pa_cons (pe_ix iIxT (pV 0) pe_int (fun _ _ => rfl)) pa_nil)) (pe_one (pe_call G_whole hr rfl m_whole k_whole b_whole .nil pass0 (pa_cons (pe_ix iIxT (pV 0) pe_int (fun _ _ => rfl)) pa_nil))))))), ?_⟩
    refine ⟨x, d, 2, rfl, hd, ?_⟩
    have no : ∀ d', partsD d' 2 = false → namedD d' = false := fun d' h => by
      cases d' with
      | tup xs =>
        match xs, h with
        | [], _ => rfl
        | [_], _ => rfl
        | [_, _], h => cases h
        | _ :: _ :: _ :: _, _ => rfl
      | _ => rfl
    cases e : partsD d 2 with
    | false =>
      have z := q H (Same.refl H)
      rw [no d e] at z
      exact z
    | true =>
      cases d with
      | tup xs =>
        refine hideP fun Rz0 hRz0 => ?_
        obtain ⟨a, vs, ez4, ha, l60, r⟩ := hd.tupE
        subst hRz0
        subst ez4
        obtain ⟨y, z, rfl⟩ := len2 (of_decide_eq_true e)
        refine hideP fun Rz0 hRz0 => ?_
        obtain ⟨v1, v2, ez5, h1, h2⟩ := r.two
        subst hRz0
        subst ez5
        refine ixTup (SqT.of ha) (i := 0) (v := v1) (by rfl) ?_
        refine hideP fun Rz0 hRz0 => ?_
        obtain ⟨th, _, _, n1⟩ := h1.kind (K := K)
        subst hRz0
        refine ⟨v1, rfl, th, fun H1 s1 => ?_⟩
        rw [n1]
        cases e2 : isND y with
        | false =>
          have w := q H1 s1
          simp only [namedD, e2, Bool.false_and] at w
          exact w
        | true =>
          refine ixTup (SqT.of (s1 _ _ ha)) (i := 1) (v := v2) (by rfl) ?_
          refine hideP fun Rz0 hRz0 => ?_
          obtain ⟨th2, _, w2, _⟩ := (h2.same s1).kind (K := K)
          subst hRz0
          refine ⟨v2, rfl, th2, ?_⟩
          rw [w2]
          have w := q H1 s1
          simp only [namedD, e2, Bool.true_and] at w
          exact w
      | _ => cases e
theorem sc_clock : FnScope ["name", "low", "high", "drift"] ["name", "low", "high", "drift"] (defScope sClock) := ⟨rfl, rfl, rfl, by decide +kernel, rfl, by decide +kernel, by decide +kernel⟩
theorem ok_clock {f f_name f_whole : Addr} {fd fd_name fd_whole : FuncData} (F : Fun K "is_clock" "is_clock" sClock f fd) (T : Txt mg t8 t6 tR tL)
    (G_name : FnOk P w K mg base CX0 1 f_name fd_name ["thing"] (spName K)) (m_name : mg "is_name" = some (.ref f_name)) (k_name : PySem.W.keepIn K (.ref f_name) = true) (b_name : Binds K fd_name ["thing"] [])
    (G_whole : FnOk P w K mg base CX0 1 f_whole fd_whole ["thing"] (spWhole K)) (m_whole : mg "is_whole" = some (.ref f_whole)) (k_whole : PySem.W.keepIn K (.ref f_whole) = true) (b_whole : Binds K fd_whole ["thing"] []) : FnOk P w K mg base CX0 2 f fd ["name", "low", "high", "drift"] spClock := by
  refine F.ok sc_clock (fun vs H Q E h => ?_) (fun cdv A outer s H vs Q E hr h => ?_)
  · obtain ⟨x0, x1, x2, x3, d0, d1, d2, d3, rfl, _⟩ := h
    rfl
  · obtain ⟨x0, x1, x2, x3, d0, d1, d2, d3, rfl, h0, h1, h2, h3, q⟩ := h
    have sl0 : sizeLine = 16777216 := sizeLine_eq
    obtain ⟨th0, _, _, n0⟩ := h0.kind (K := K)
    refine ⟨_, (pss_cons (ps_if (ptOr (pt_not (ptV (pe_call G_name hr rfl m_name k_name b_name .nil pass0 (pa_cons (pV 0) pa_nil)))) (pw_or1 (pt_not (ptV (pe_callB (call_all rfl) rfl T.all PyProof.Rows.boot_all (pa_cons (pe_comp (scX := defScope sClock) (own := ["number"]) (cap := []) (ix := []) rfl rfl ⟨rfl, by decide +kernel, by decide +kernel, by decide +kernel, rfl, by decide +kernel⟩ (pi_tup (pe_tup (pa_cons (pV 1) (pa_cons (pV 2) (pa_cons (pV 3) pa_nil))))) (fun b => (pg_name (i := 0) (show (["number"] : List Str).Nodup by decide +kernel) rfl (Or.inl rfl))) (fun b => pif_nil) (fun b => (pe_call G_whole hr rfl m_whole k_whole b_whole .nil pass0 (pa_cons (pV 0) pa_nil)))) pa_nil)))))) (pss_one (ps_ret pe_bl)) pss_nil) (pss_one (ps_ret (peAnd (pe_cmpR oLe (pV 1) (pV 2) (nomark _)) (pe_one (pe_cmpR oGe (pV 3) pe_int (nomark _))))))), ?_⟩
    refine ⟨x0, rfl, th0, fun H1 s1 => ?_⟩
    rw [n0]
    unfold clockD at q
    cases e0 : isND d0 with
    | false => rw [e0] at q; exact q H1 s1
    | true =>
      rw [e0, Bool.true_and] at q
      refine ⟨by show 3 ≤ sizeLine; omega, fun p hp => ?_⟩
      refine ⟨p, rfl, ⟨_, SqT.of upd_same⟩, fun D hD => comp_map (xs := [x1, x2, x3]) (ys := [isWD d1, isWD d2, isWD d3].map V.bl) hD (SqT.of upd_same) (by show 3 ≤ sizeLine; omega) rfl (fun i x H' hx s2 b R hR => ?_) (fun H' s2 e => ?_)⟩
      · have S := (s1.upd hp).trans s2
        have hx' : ∃ dd, DaAt H' x dd ∧ ([isWD d1, isWD d2, isWD d3].map V.bl)[i]? = some (.bl (isWD dd)) := by
          match i, hx with
          | 0, hx => cases hx; exact ⟨d1, h1.same S, rfl⟩
          | 1, hx => cases hx; exact ⟨d2, h2.same S, rfl⟩
          | 2, hx => cases hx; exact ⟨d3, h3.same S, rfl⟩
        obtain ⟨dd, hdd, ey⟩ := hx'
        refine hideP fun Rz0 hRz0 => ?_
        obtain ⟨th, _, w, _⟩ := hdd.kind (K := K)
        subst hRz0
        refine ⟨x, rfl, th, ?_⟩
        rw [w]
        exact hR H' _ ey (Same.refl _)
      · refine ⟨D, [isWD d1, isWD d2, isWD d3], rfl, SqL.of e, ?_⟩
        have ea : ([isWD d1, isWD d2, isWD d3] : List Bool).all id = (isWD d1 && (isWD d2 && isWD d3)) := by simp
        rw [ea]
        have qq := q H' ((s1.upd hp).trans s2)
        cases e1 : (isWD d1 && (isWD d2 && isWD d3)) with
        | false => rw [e1] at qq; exact qq
        | true =>
          rw [e1, Bool.true_and] at qq
          obtain ⟨w1, w2⟩ := Bool.and_eq_true_iff.mp e1
          obtain ⟨w2, w3⟩ := Bool.and_eq_true_iff.mp w2
          cases h1 with
          | int i1 =>
            cases h2 with
            | int i2 =>
              cases h3 with
              | int i3 =>
                refine ite2 (fun z => ?_) (fun z => ?_)
                · have z' : decide (intD (.int i1) ≤ intD (.int i2)) = true := z
                  rw [z', Bool.true_and] at qq
                  exact qq
                · have z' : decide (intD (.int i1) ≤ intD (.int i2)) = false := (Bool.not_eq_true _).mp z
                  rw [z', Bool.false_and] at qq
                  exact qq
              | _ => cases w3
            | _ => cases w2
          | _ => cases w1
end
end K02
namespace K02
open PySem L2
section
variable {P : Program} {w : World} {K : PySem.W.Frag} {mg : Str → Option Value} {base : Heap} {t8 t6 tR tL : Tok}
theorem sc_run : FnScope ["thing"] ["thing"] (defScope sRun) := ⟨rfl, rfl, rfl, by decide +kernel, rfl, by decide +kernel, by decide +kernel⟩
theorem ok_run {f f_named f_rising : Addr} {fd fd_named fd_rising : FuncData} (F : Fun K "is_run" "is_run" sRun f fd) (T : Txt mg t8 t6 tR tL)
    (G_named : FnOk P w K mg base CX0 2 f_named fd_named ["thing"] (spD namedD)) (m_named : mg "is_named_number" = some (.ref f_named)) (k_named : PySem.W.keepIn K (.ref f_named) = true) (b_named : Binds K fd_named ["thing"] [])
    (G_rising : FnOk P w K mg base CX0 2 f_rising fd_rising ["values"] spRising) (m_rising : mg "is_rising" = some (.ref f_rising)) (k_rising : PySem.W.keepIn K (.ref f_rising) = true) (b_rising : Binds K fd_rising ["values"] []) : FnOk P w K mg base CX0 3 f fd ["thing"] (spD runD) := by
  refine F.ok sc_run (fun vs H Q E h => ?_) (fun cdv A outer s H vs Q E hr h => ?_)
  · obtain ⟨x, d, rfl, _⟩ := h
    rfl
  · obtain ⟨x, d, rfl, hd, q⟩ := h
    have sl0 : sizeLine = 16777216 := sizeLine_eq
    obtain ⟨_, ⟨T', ty, kt⟩, _⟩ := hd.kind (K := K)
    refine ⟨_, (pss_cons (ps_if (ptOr (pt_not (ptV (pe_callB call_isi rfl T.isi PyProof.Rows.boot_isinstance (pa_cons (pV 0) (pa_cons (pe_bltn (v := .ty "tuple") rfl T.tuple PyProof.Rows.boot_tuple rfl) pa_nil))))) (pw_or1 (ptC oEq (pe_callB call_len_seq rfl T.len PySem.boot_len (pa_cons (pV 0) pa_nil)) pe_int (nomark _)))) (pss_one (ps_ret pe_bl)) pss_nil) (pss_cons (ps_if (pt_not (ptV (pe_callB (call_all rfl) rfl T.all PyProof.Rows.boot_all (pa_cons (pe_comp (scX := defScope sRun) (own := ["row"]) (cap := []) (ix := []) rfl rfl ⟨rfl, by decide +kernel, by decide +kernel, by decide +kernel, rfl, by decide +kernel⟩ (pi_tup (pV 0)) (fun b => (pg_name (i := 0) (show (["row"] : List Str).Nodup by decide +kernel) rfl (Or.inl rfl))) (fun b => pif_nil) (fun b => (pe_call G_named hr rfl m_named k_named b_named .nil pass0 (pa_cons (pV 0) pa_nil)))) pa_nil)))) (pss_one (ps_ret pe_bl)) pss_nil) (pss_one (ps_ret (pe_call G_rising hr rfl m_rising k_rising b_rising .nil pass0 (pa_cons (pe_comp (scX := defScope sRun) (own := ["name", "reading"]) (cap := []) (ix := []) rfl rfl ⟨rfl, by decide +kernel, by decide +kernel, by decide +kernel, rfl, by decide +kernel⟩ (pi_tup (pV 0)) (fun b => (pg_tup rfl (pgs_cons (pg_name (i := 0) (show (["name", "reading"] : List Str).Nodup by decide +kernel) rfl (Or.inl rfl)) (pgs_cons (pg_name (i := 1) (show (["name", "reading"] : List Str).Nodup by decide +kernel) rfl (Or.inl rfl)) pgs_nil)))) (fun b => pif_nil) (fun b => (pV 1))) pa_nil)))))), ?_⟩
    refine ⟨_, _, _, _, rfl, ty, kt, ?_⟩
    cases d with
    | tup xs =>
      refine hideP fun Rz0 hRz0 => ?_
      obtain ⟨a, vs, ez6, ha, l60, r⟩ := hd.tupE
      subst hRz0
      subst ez6
      have len := r.len
      refine ⟨a, vs, rfl, .inr (SqT.of ha), ?_⟩
      refine ite2 (fun z => ?_) (fun z => ?_)
      · have e : xs = [] := List.eq_nil_of_length_eq_zero (by have := of_decide_eq_true z; omega)
        subst e
        exact q H (Same.refl H)
      · have ne : xs.isEmpty = false := by
          cases xs with
          | nil => exact absurd (decide_eq_true (by rw [len]; rfl)) z
          | cons _ _ => rfl
        have q' : ∀ H', Same H H' → Q (.bl (xs.all namedD && riseI (xs.map fun x => intD (sndD x)))) H' := fun H' s => by
          have w := q H' s
          simp only [runD, ne, Bool.not_false, Bool.true_and] at w
          exact w
        refine ⟨a, rfl, ⟨_, SqT.of ha⟩, fun D hD => comp_map (xs := vs) (ys := (xs.map namedD).map V.bl) hD (SqT.of ha) (by omega) (by rw [List.length_map, List.length_map]; omega) (fun i x H' hx s2 b R hR => ?_) (fun H' s2 e => ?_)⟩
        · obtain ⟨y, hy, ya⟩ := r.get hx
          exact ⟨x, y, rfl, ya.same s2, fun H'' s => hR H'' _ (by rw [List.getElem?_map, List.getElem?_map, hy]; rfl) s⟩
        · refine ⟨D, _, rfl, SqL.of e, ?_⟩
          rw [all_of]
          cases ea : xs.all namedD with
          | false =>
            have w := q' H' s2
            rw [ea] at w
            exact w
          | true =>
            rw [ea] at q'
            have form : ∀ (i : Nat) (y : Da), xs[i]? = some y → ∃ p j, y = .tup [p, .int j] := fun i y hy => by
              refine hideP fun Rz0 hRz0 => ?_
              obtain ⟨z, j, e, _⟩ := named_form (List.all_eq_true.mp ea y (List.mem_of_getElem? hy))
              subst hRz0
              exact ⟨_, j, e⟩
            refine ⟨a, rfl, ⟨_, SqT.of (s2 _ _ ha)⟩, fun D2 hD2 => comp_map (xs := vs) (ys := (xs.map fun x => intD (sndD x)).map V.int) hD2 (SqT.of (s2 _ _ ha)) (by omega) (by rw [List.length_map, List.length_map]; omega) (fun i x H2 hx s3 b R hR => ?_) (fun H2 s3 e2 => ?_)⟩
            · obtain ⟨y, hy, ya⟩ := r.get hx
              obtain ⟨p, j, rfl⟩ := form i y hy
              refine hideP fun Rz0 hRz0 => ?_
              obtain ⟨c, ws, ez7, hc, _, rw'⟩ := (ya.same (s2.trans s3)).tupE
              subst hRz0
              subst ez7
              refine hideP fun Rz0 hRz0 => ?_
              obtain ⟨w1, w2, ez8, g1, g2⟩ := rw'.two
              subst hRz0
              subst ez8
              cases g2 with
              | int _ =>
                refine ⟨c, _, rfl, SqT.of hc, rfl, _, _, rfl, _, _, rfl, rfl, ?_⟩
                exact hR H2 _ (by rw [List.getElem?_map, List.getElem?_map, hy]; rfl) (Same.refl _)
            · refine ⟨D2, _, _, rfl, e2, by rw [List.length_map, List.length_map]; omega, .inl ⟨_, rfl, rfl⟩, fun H3 s4 => ?_⟩
              exact q' H3 ((s2.trans s3).trans s4)
    | _ => exact q H (Same.refl H)
theorem sc_house : FnScope ["thing", "name", "low", "high", "drift", "runs"] ["thing"] (defScope sHouse) := ⟨rfl, rfl, rfl, by decide +kernel, rfl, by decide +kernel, by decide +kernel⟩
theorem ok_house {f f_parts f_clock f_run : Addr} {fd fd_parts fd_clock fd_run : FuncData} (F : Fun K "is_house" "is_house" sHouse f fd) (T : Txt mg t8 t6 tR tL)
    (G_parts : FnOk P w K mg base CX0 3 f_parts fd_parts ["thing", "many"] spParts) (m_parts : mg "has_parts" = some (.ref f_parts)) (k_parts : PySem.W.keepIn K (.ref f_parts) = true) (b_parts : Binds K fd_parts ["thing", "many"] [])
    (G_clock : FnOk P w K mg base CX0 3 f_clock fd_clock ["name", "low", "high", "drift"] spClock) (m_clock : mg "is_clock" = some (.ref f_clock)) (k_clock : PySem.W.keepIn K (.ref f_clock) = true) (b_clock : Binds K fd_clock ["name", "low", "high", "drift"] [])
    (G_run : FnOk P w K mg base CX0 3 f_run fd_run ["thing"] (spD runD)) (m_run : mg "is_run" = some (.ref f_run)) (k_run : PySem.W.keepIn K (.ref f_run) = true) (b_run : Binds K fd_run ["thing"] []) : FnOk P w K mg base CX0 4 f fd ["thing"] (spD houseD) := by
  refine F.ok sc_house (fun vs H Q E h => ?_) (fun cdv A outer s H vs Q E hr h => ?_)
  · obtain ⟨x, d, rfl, _⟩ := h
    rfl
  · obtain ⟨x, d, rfl, hd, q⟩ := h
    have sl0 : sizeLine = 16777216 := sizeLine_eq
    refine ⟨_, (pss_cons (ps_if (pt_not (ptV (pe_call G_parts hr rfl m_parts k_parts b_parts .nil pass0 (pa_cons (pV 0) (pa_cons pe_int pa_nil))))) (pss_one (ps_ret pe_bl)) pss_nil) (pss_cons (ps_asg (pV 0) (pg_tup rfl (pgs_cons (pg_name (i := 1) sc_house.nd rfl (Or.inl rfl)) (pgs_cons (pg_name (i := 2) sc_house.nd rfl (Or.inl rfl)) (pgs_cons (pg_name (i := 3) sc_house.nd rfl (Or.inl rfl)) (pgs_cons (pg_name (i := 4) sc_house.nd rfl (Or.inl rfl)) (pgs_cons (pg_name (i := 5) sc_house.nd rfl (Or.inl rfl)) pgs_nil))))))) (pss_cons (ps_if (ptOr (pt_not (ptV (pe_call G_clock hr rfl m_clock k_clock b_clock .nil pass0 (pa_cons (pV 1) (pa_cons (pV 2) (pa_cons (pV 3) (pa_cons (pV 4) pa_nil))))))) (pw_or1 (pt_not (ptV (pe_callB call_isi rfl T.isi PyProof.Rows.boot_isinstance (pa_cons (pV 5) (pa_cons (pe_bltn (v := .ty "tuple") rfl T.tuple PyProof.Rows.boot_tuple rfl) pa_nil))))))) (pss_one (ps_ret pe_bl)) pss_nil) (pss_one (ps_ret (pe_callB (call_all rfl) rfl T.all PyProof.Rows.boot_all (pa_cons (pe_comp (scX := defScope sHouse) (own := ["run"]) (cap := []) (ix := []) rfl rfl ⟨rfl, by decide +kernel, by decide +kernel, by decide +kernel, rfl, by decide +kernel⟩ (pi_tup (pV 5)) (fun b => (pg_name (i := 0) (show (["run"] : List Str).Nodup by decide +kernel) rfl (Or.inl rfl))) (fun b => pif_nil) (fun b => (pe_call G_run hr rfl m_run k_run b_run .nil pass0 (pa_cons (pV 0) pa_nil)))) pa_nil))))))), ?_⟩
    refine ⟨x, d, 5, rfl, hd, ?_⟩
    have no : ∀ d', partsD d' 5 = false → houseD d' = false := fun d' h => by
      cases d' with
      | tup xs =>
        match xs, h with
        | [], _ => rfl
        | [_], _ => rfl
        | [_, _], _ => rfl
        | [_, _, _], _ => rfl
        | [_, _, _, _], _ => rfl
        | [_, _, _, _, _], h => cases h
        | _ :: _ :: _ :: _ :: _ :: _ :: _, _ => rfl
      | _ => rfl
    cases e : partsD d 5 with
    | false =>
      have z := q H (Same.refl H)
      rw [no d e] at z
      exact z
    | true =>
      cases d with
      | tup xs =>
        refine hideP fun Rz0 hRz0 => ?_
        obtain ⟨a, vs, ez9, ha, l60, r⟩ := hd.tupE
        subst hRz0
        subst ez9
        refine hideP fun Rz0 hRz0 => ?_
        obtain ⟨y1, y2, y3, y4, y5, ez10⟩ := len5 (of_decide_eq_true e)
        subst hRz0
        subst ez10
        refine hideP fun Rz0 hRz0 => ?_
        obtain ⟨v1, v2, v3, v4, v5, ez11, h1, h2, h3, h4, h5⟩ := r.five
        subst hRz0
        subst ez11
        refine ⟨a, _, rfl, SqT.of ha, rfl, _, _, rfl, _, _, rfl, _, _, rfl, _, _, rfl, _, _, rfl, rfl, ?_⟩
        refine ⟨v1, v2, v3, v4, y1, y2, y3, y4, rfl, h1, h2, h3, h4, fun H1 s1 => ?_⟩
        cases ec : clockD y1 y2 y3 y4 with
        | false =>
          have w := q H1 s1
          simp only [houseD, ec, Bool.false_and] at w
          exact w
        | true =>
          have q' : ∀ H', Same H H' → Q (.bl (runsD y5)) H' := fun H' s => by
            have w := q H' s
            simp only [houseD, ec, Bool.true_and] at w
            exact w
          refine hideP fun Rz0 hRz0 => ?_
          obtain ⟨_, ⟨T', ty, kt⟩, _⟩ := (h5.same s1).kind (K := K)
          subst hRz0
          refine ⟨_, _, _, _, rfl, ty, kt, ?_⟩
          cases y5 with
          | tup rs =>
            refine hideP fun Rz0 hRz0 => ?_
            obtain ⟨c, ws, ez12, hc, lw, rr⟩ := (h5.same s1).tupE
            subst hRz0
            subst ez12
            have len := rr.len
            refine ⟨c, rfl, ⟨_, SqT.of hc⟩, fun D hD => comp_map (xs := ws) (ys := (rs.map runD).map V.bl) hD (SqT.of hc) (by omega) (by rw [List.length_map, List.length_map]; omega) (fun i x H' hx s2 b R hR => ?_) (fun H' s2 e => ?_)⟩
            · obtain ⟨y, hy, ya⟩ := rr.get hx
              exact ⟨x, y, rfl, ya.same s2, fun H'' s => hR H'' _ (by rw [List.getElem?_map, List.getElem?_map, hy]; rfl) s⟩
            · refine ⟨D, _, rfl, SqL.of e, ?_⟩
              rw [all_of]
              exact q' H' (s1.trans s2)
          | _ => exact q' H1 s1
      | _ => cases e
theorem sc_letter : FnScope ["thing", "sent", "taken", "least", "most"] ["thing"] (defScope sLetter) := ⟨rfl, rfl, rfl, by decide +kernel, rfl, by decide +kernel, by decide +kernel⟩
theorem ok_letter {f f_parts f_name f_whole : Addr} {fd fd_parts fd_name fd_whole : FuncData} (F : Fun K "is_letter" "is_letter" sLetter f fd)
    (G_parts : FnOk P w K mg base CX0 1 f_parts fd_parts ["thing", "many"] spParts) (m_parts : mg "has_parts" = some (.ref f_parts)) (k_parts : PySem.W.keepIn K (.ref f_parts) = true) (b_parts : Binds K fd_parts ["thing", "many"] [])
    (G_name : FnOk P w K mg base CX0 1 f_name fd_name ["thing"] (spName K)) (m_name : mg "is_name" = some (.ref f_name)) (k_name : PySem.W.keepIn K (.ref f_name) = true) (b_name : Binds K fd_name ["thing"] [])
    (G_whole : FnOk P w K mg base CX0 1 f_whole fd_whole ["thing"] (spWhole K)) (m_whole : mg "is_whole" = some (.ref f_whole)) (k_whole : PySem.W.keepIn K (.ref f_whole) = true) (b_whole : Binds K fd_whole ["thing"] []) : FnOk P w K mg base CX0 2 f fd ["thing"] (spD letterD) := by
  refine F.ok sc_letter (fun vs H Q E h => ?_) (fun cdv A outer s H vs Q E hr h => ?_)
  · obtain ⟨x, d, rfl, _⟩ := h
    rfl
  · obtain ⟨x, d, rfl, hd, q⟩ := h
    refine ⟨_, (pss_cons (ps_if (pt_not (ptV (pe_call G_parts hr rfl m_parts k_parts b_parts .nil pass0 (pa_cons (pV 0) (pa_cons pe_int pa_nil))))) (pss_one (ps_ret pe_bl)) pss_nil) (pss_cons (ps_asg (pV 0) (pg_tup rfl (pgs_cons (pg_name (i := 1) sc_letter.nd rfl (Or.inl rfl)) (pgs_cons (pg_name (i := 2) sc_letter.nd rfl (Or.inl rfl)) (pgs_cons (pg_name (i := 3) sc_letter.nd rfl (Or.inl rfl)) (pgs_cons (pg_name (i := 4) sc_letter.nd rfl (Or.inl rfl)) pgs_nil)))))) (pss_cons (ps_if (ptOr (pt_not (ptV (pe_call G_name hr rfl m_name k_name b_name .nil pass0 (pa_cons (pV 1) pa_nil)))) (pw_or1 (pt_not (ptV (pe_call G_name hr rfl m_name k_name b_name .nil pass0 (pa_cons (pV 2) pa_nil)))))) (pss_one (ps_ret pe_bl)) pss_nil) (pss_cons (ps_if (ptOr (pt_not (ptV (pe_call G_whole hr rfl m_whole k_whole b_whole .nil pass0 (pa_cons (pV 3) pa_nil)))) (pw_or1 (ptC oLt (pV 3) pe_int (nomark _)))) (pss_one (ps_ret pe_bl)) pss_nil) (pss_one (ps_ret (peOr (pe_cmpR op_isN (pV 4) pe_non (nomark _)) (pe_one (peAnd (pe_call G_whole hr rfl m_whole k_whole b_whole .nil pass0 (pa_cons (pV 4) pa_nil)) (pe_one (pe_cmpR oGe (pV 4) (pV 3) (nomark _)))))))))))), ?_⟩
    refine ⟨x, d, 4, rfl, hd, ?_⟩
    have no : ∀ d', partsD d' 4 = false → letterD d' = false := fun d' h => by
      cases d' with
      | tup xs =>
        match xs, h with
        | [], _ => rfl
        | [_], _ => rfl
        | [_, _], _ => rfl
        | [_, _, _], _ => rfl
        | [_, _, _, _], h => cases h
        | _ :: _ :: _ :: _ :: _ :: _, _ => rfl
      | _ => rfl
    cases e : partsD d 4 with
    | false =>
      have z := q H (Same.refl H)
      rw [no d e] at z
      exact z
    | true =>
      cases d with
      | tup xs =>
        refine hideP fun Rz0 hRz0 => ?_
        obtain ⟨a, vs, ez13, ha, l60, r⟩ := hd.tupE
        subst hRz0
        subst ez13
        refine hideP fun Rz0 hRz0 => ?_
        obtain ⟨y1, y2, y3, y4, ez14⟩ := len4 (of_decide_eq_true e)
        subst hRz0
        subst ez14
        refine hideP fun Rz0 hRz0 => ?_
        obtain ⟨v1, v2, v3, v4, ez15, h1, h2, h3, h4⟩ := r.four
        subst hRz0
        subst ez15
        refine ⟨a, _, rfl, SqT.of ha, rfl, _, _, rfl, _, _, rfl, _, _, rfl, _, _, rfl, rfl, ?_⟩
        refine hideP fun Rz0 hRz0 => ?_
        obtain ⟨th1, _, _, n1⟩ := h1.kind (K := K)
        subst hRz0
        refine ⟨_, rfl, th1, fun H1 s1 => ?_⟩
        rw [n1]
        have q : ∀ H', Same H H' → Q (.bl (isND y1 && (isND y2 && (isWD y3 && (decide (1 ≤ intD y3) && mostD (intD y3) y4))))) H' := q
        cases e1 : isND y1 with
        | false => rw [e1] at q; exact q H1 s1
        | true =>
          rw [e1, Bool.true_and] at q
          refine hideP fun Rz0 hRz0 => ?_
          obtain ⟨th2, _, _, n2⟩ := (h2.same s1).kind (K := K)
          subst hRz0
          refine ⟨_, rfl, th2, fun H2 s2 => ?_⟩
          rw [n2]
          have S := s1.trans s2
          cases e2 : isND y2 with
          | false => rw [e2] at q; exact q H2 S
          | true =>
            rw [e2, Bool.true_and] at q
            refine hideP fun Rz0 hRz0 => ?_
            obtain ⟨th3, _, w3, _⟩ := (h3.same S).kind (K := K)
            subst hRz0
            refine ⟨_, rfl, th3, ?_⟩
            rw [w3]
            cases e3 : isWD y3 with
            | false => rw [e3] at q; exact q H2 S
            | true =>
              rw [e3, Bool.true_and] at q
              cases h3 with
              | int i3 =>
                refine ite2 (fun z => ?_) (fun z => ?_)
                · have z' : decide (1 ≤ intD (.int i3)) = false := decide_eq_false (by have := of_decide_eq_true z; show ¬ (1 : Int) ≤ i3; omega)
                  rw [z', Bool.false_and] at q
                  exact q H2 S
                · have z' : decide (1 ≤ intD (.int i3)) = true := decide_eq_true (by
                    have : ¬ i3 < 1 := fun w => z (decide_eq_true w)
                    show (1 : Int) ≤ i3; omega)
                  rw [z', Bool.true_and] at q
                  refine ⟨rfl, ?_⟩
                  refine hideP fun Rz0 hRz0 => ?_
                  obtain ⟨th4, _, w4, _⟩ := (h4.same S).kind (K := K)
                  subst hRz0
                  cases h4 with
                  | non => exact q H2 S
                  | int i4 =>
                    refine ⟨_, rfl, th4, ?_⟩
                    exact q H2 S
                  | bl b4 => exact ⟨_, rfl, th4, q H2 S⟩
                  | str z4 hz4 => exact ⟨_, rfl, th4, q H2 S⟩
                  | tup g1 g2 g3 => exact ⟨_, rfl, th4, q H2 S⟩
                  | lst g1 => exact ⟨_, rfl, th4, q H2 S⟩
                  | dic g1 => exact ⟨_, rfl, th4, q H2 S⟩
              | _ => cases e3
      | _ => cases e
end
end K02
namespace K02
open PySem L2
noncomputable def spRowsIn : Sp := fun vs H Q _ => ∃ (x : V) (h : House), vs = [x] ∧ HouseAt H x h ∧ GoodHouse h ∧ ∀ (l : Addr) (zs : List V) (H' : Hp), H l = none → H' l = some (.lst zs) → Same H H' → Paired (RowAt H') zs (rowsH h) → Q (.ref l) H'
noncomputable def spUnlike : Sp := fun vs H Q _ => ∃ (a : Addr) (ss : List Str), vs = [.ref a] ∧ H a = some (.lst (ss.map V.str)) ∧ ss.length ≤ 3800 ∧ ∀ H', Same H H' → Q (.bl (decide ss.Nodup)) H'
theorem metI_full {ks : List Key} : ∀ i, i ≤ ks.length → (metI ks i).length = i → (ks.take i).Nodup
  | 0, _, _ => by rw [List.take_zero]; exact List.nodup_nil
  | i + 1, hi, h => by
    have hk : ks[i]? = some ks[i] := List.getElem?_eq_getElem (by omega)
    have le := metI_le ks i
    rw [metI_succ hk] at h
    cases q : amK (metI ks i) ks[i] with
    | true => rw [q, if_pos rfl] at h; omega
    | false =>
      rw [q, if_neg Bool.false_ne_true, List.length_append] at h
      have h' : (metI ks i).length = i := by simpa using h
      have ih := metI_full i (by omega) h'
      have e : metI ks i = ks.take i := metI_take i (by omega) h'
      rw [List.take_add_one, hk]
      rw [List.nodup_append]
      refine ⟨ih, by simp, fun a ha b hb z => ?_⟩
      have hb' : b = ks[i] := by simpa using hb
      rw [hb'] at z
      rw [e] at q
      have := amK_iff.mpr (show ks[i] ∈ ks.take i by rw [← z]; exact ha)
      rw [q] at this; cases this
where metI_take : ∀ i, i ≤ ks.length → (metI ks i).length = i → metI ks i = ks.take i
  | 0, _, _ => rfl
  | i + 1, hi, h => by
    have hk : ks[i]? = some ks[i] := List.getElem?_eq_getElem (by omega)
    have le := metI_le ks i
    rw [metI_succ hk] at h ⊢
    cases q : amK (metI ks i) ks[i] with
    | true => rw [q, if_pos rfl] at h; omega
    | false =>
      rw [q, if_neg Bool.false_ne_true, List.length_append] at h
      rw [if_neg Bool.false_ne_true, metI_take i (by omega) (by simpa using h), List.take_add_one, hk]
      rfl
noncomputable def spRowNames : Sp := fun vs H Q _ => ∃ (x : V) (hs : List House), vs = [x] ∧ HousesAt H x hs ∧ hs.length ≤ 6 ∧ (∀ h ∈ hs, GoodHouse h) ∧ ∀ (l : Addr) (H' : Hp), H l = none → H' l = some (.lst ((namesOf hs).map V.str)) → Same H H' → Q (.ref l) H'
theorem flat_len {α : Type} : ∀ {l : List (List α)} {n : Nat}, (∀ r ∈ l, r.length ≤ n) → l.flatten.length ≤ l.length * n
  | [], _, _ => by simp
  | r :: l, n, h => by
    have h1 := h r List.mem_cons_self
    have h2 := flat_len fun q hq => h q (List.mem_cons_of_mem _ hq)
    rw [List.flatten_cons, List.length_append, List.length_cons, Nat.succ_mul]
    omega
theorem GoodHouse.len {h : House} (g : GoodHouse h) : (rowsH h).length ≤ 625 := by
  have h1 := flat_len (n := 25) fun r hr => (g.runs r hr).few
  have h2 : h.runs.length * 25 ≤ 25 * 25 := Nat.mul_le_mul_right 25 g.few
  show h.runs.flatten.length ≤ 625
  omega
section
variable {P : Program} {w : World} {K : PySem.W.Frag} {mg : Str → Option Value} {base : Heap} {t8 t6 tR tL : Tok}
theorem sc_rowsin : FnScope ["house"] ["house"] (defScope sRowsIn) := ⟨rfl, rfl, rfl, by decide +kernel, rfl, by decide +kernel, by decide +kernel⟩
theorem ok_rowsin {f : Addr} {fd : FuncData} (F : Fun K "rows_in" "rows_in" sRowsIn f fd) : FnOk P w K mg base CX0 1 f fd ["house"] spRowsIn := by
  refine F.ok sc_rowsin (fun vs H Q E h => ?_) (fun cdv A outer s H vs Q E hr h => ?_)
  · obtain ⟨x, hh, rfl, _⟩ := h
    rfl
  · obtain ⟨x, hh, rfl, ⟨a, b, rfl, ha, c, vs, rfl, hc, pr⟩, gd, q⟩ := h
    have sl0 : sizeLine = 16777216 := sizeLine_eq
    refine ⟨_, (pss_one (ps_ret (pe_comp2 (scX := defScope sRowsIn) (own := ["run", "row"]) (cap := []) (ix := []) rfl rfl ⟨rfl, by decide +kernel, by decide +kernel, by decide +kernel, rfl, by decide +kernel⟩ (pi_tup (pe_ix iIxT (pV 0) pe_int (fun _ _ => rfl))) (fun b => (pg_name (i := 0) (show (["run", "row"] : List Str).Nodup by decide +kernel) rfl (Or.inl rfl))) (fun b => pif_nil) (fun b => pi_tup (pV 0)) (fun b => (pg_name (i := 1) (show (["run", "row"] : List Str).Nodup by decide +kernel) rfl (Or.inl rfl))) (fun b => pif_nil) (fun b => pV 1)))), ?_⟩
    refine ixTup (SqT.of ha) (i := 4) (v := .ref c) (by rfl) ?_
    refine ⟨c, rfl, ⟨_, SqT.of hc⟩, fun D hD => ⟨WS vs.length (fun i σ H' => ∃ o1 o2 zs, σ = [o1, o2] ∧ Grow H H' D zs ∧ Paired (RowAt H) zs (hh.runs.take i).flatten), ws0 ⟨none, none, [], rfl, Grow.start hD, .nil⟩, fun b => ct_tup (xs := vs) _ (fun i σ H' _ hz1 => by obtain ⟨_, _, _, _, G, _⟩ := hz1; exact SqT.of (G.same _ _ hc)) (fun σ H' hz2 => ?_) (fun i x σ H' hx hi hz3 => ?_)⟩⟩
    · refine hideP fun Rz0 hRz0 => ?_
      obtain ⟨_, _, zs, _, G, pz⟩ := hz2
      subst hRz0
      refine q D zs H' hD G.at' G.same ?_
      rw [pr.length, List.take_length] at pz
      exact paired_mono (fun _ _ z => z.ts G.same.tups) pz
    · refine hideP fun Rz0 hRz0 => ?_
      obtain ⟨o1, o2, zs, e, G, pz⟩ := hz3
      subst hRz0
      subst e
      refine hideP fun Rz0 hRz0 => ?_
      obtain ⟨r, hr', c2, ws, ez16, hc2, pr2⟩ := paired_getL pr hx
      subst hRz0
      subst ez16
      have gr := gd.runs r (List.mem_of_getElem? hr')
      refine ⟨c2, rfl, ⟨_, SqT.of (G.same _ _ hc2)⟩, WS ws.length (fun j σ H'' => ∃ o2 zs', σ = [some (.ref c2), o2] ∧ Grow H H'' D zs' ∧ Paired (RowAt H) zs' ((hh.runs.take i).flatten ++ r.take j)), ws0 ⟨o2, zs, rfl, G, by rw [List.take_zero, List.append_nil]; exact pz⟩, ct_tup (xs := ws) _ (fun j σ H'' _ hz1 => by obtain ⟨_, _, _, G', _⟩ := hz1; exact SqT.of (G'.same _ _ hc2)) (fun σ H'' ⟨o2', zs', e', G', pz'⟩ => nxs hi ⟨_, _, zs', e', G', ?_⟩) (fun j y σ H'' hy hj hz3 => ?_)⟩
      · rw [pr2.length, List.take_length] at pz'
        rw [List.take_add_one, hr', List.flatten_append]
        simpa using pz'
      · refine hideP fun Rz0 hRz0 => ?_
        obtain ⟨o2', zs', e', G', pz'⟩ := hz3
        subst hRz0
        subst e'
        obtain ⟨rr, hrr, ra⟩ := paired_getL pr2 hy
        have hl := pz'.length
        have hl1 := flat_len (l := hh.runs.take i) (n := 25) fun q hq => (gd.runs q (List.mem_of_mem_take hq)).few
        have hl2 : (hh.runs.take i).length ≤ 25 := Nat.le_trans (List.length_take_le' i hh.runs) gd.few
        have hl3 : (hh.runs.take i).length * 25 ≤ 25 * 25 := Nat.mul_le_mul_right 25 hl2
        have hl4 := gr.few
        rw [List.length_append, List.length_take] at hl
        refine ⟨zs', G'.at', by omega, nxs hj ⟨_, zs' ++ [y], rfl, G'.put hD y, ?_⟩⟩
        rw [List.take_add_one, hrr, ← List.append_assoc]
        exact paired_app pz' (.cons ra .nil)
theorem sc_rownames : FnScope ["houses"] ["houses"] (defScope sRowNames) := ⟨rfl, rfl, rfl, by decide +kernel, rfl, by decide +kernel, by decide +kernel⟩
theorem ok_rownames {f f_rowsin : Addr} {fd fd_rowsin : FuncData} (F : Fun K "row_names" "row_names" sRowNames f fd)
    (G_rowsin : FnOk P w K mg base CX0 1 f_rowsin fd_rowsin ["house"] spRowsIn) (m_rowsin : mg "rows_in" = some (.ref f_rowsin)) (k_rowsin : PySem.W.keepIn K (.ref f_rowsin) = true) (b_rowsin : Binds K fd_rowsin ["house"] []) : FnOk P w K mg base CX0 2 f fd ["houses"] spRowNames := by
  refine F.ok sc_rownames (fun vs H Q E h => ?_) (fun cdv A outer s H vs Q E hr h => ?_)
  · obtain ⟨x, hs, rfl, _⟩ := h
    rfl
  · obtain ⟨x, hs, rfl, ⟨c, vs, rfl, hc, pr⟩, h6, gd, q⟩ := h
    have sl0 : sizeLine = 16777216 := sizeLine_eq
    refine ⟨_, (pss_one (ps_ret (pe_comp2 (scX := defScope sRowNames) (own := ["house", "name", "reading"]) (cap := []) (ix := []) rfl rfl ⟨rfl, by decide +kernel, by decide +kernel, by decide +kernel, rfl, by decide +kernel⟩ (pi_tup (pV 0)) (fun b => (pg_name (i := 0) (show (["house", "name", "reading"] : List Str).Nodup by decide +kernel) rfl (Or.inl rfl))) (fun b => pif_nil) (fun b => pi_list (pe_call G_rowsin hr rfl m_rowsin k_rowsin b_rowsin .nil pass0 (pa_cons (pV 0) pa_nil))) (fun b => (pg_tup rfl (pgs_cons (pg_name (i := 1) (show (["house", "name", "reading"] : List Str).Nodup by decide +kernel) rfl (Or.inl rfl)) (pgs_cons (pg_name (i := 2) (show (["house", "name", "reading"] : List Str).Nodup by decide +kernel) rfl (Or.inl rfl)) pgs_nil)))) (fun b => pif_nil) (fun b => pV 1)))), ?_⟩
    refine ⟨c, rfl, ⟨_, SqT.of hc⟩, fun D hD => ⟨WS vs.length (fun i σ H' => ∃ o1 o2 o3, σ = [o1, o2, o3] ∧ Grow H H' D (((hs.take i).flatMap namesH).map V.str)), ws0 ⟨none, none, none, rfl, Grow.start hD⟩, fun b => ct_tup (xs := vs) _ (fun i σ H' _ hz4 => by obtain ⟨_, _, _, _, G⟩ := hz4; exact SqT.of (G.same _ _ hc)) (fun σ H' hz5 => ?_) (fun i x σ H' hx hi hz6 => ?_)⟩⟩
    · refine hideP fun Rz0 hRz0 => ?_
      obtain ⟨_, _, _, _, G⟩ := hz5
      subst hRz0
      refine q D H' hD ?_ G.same
      have e := G.at'
      rw [pr.length, List.take_length] at e
      exact e
    · refine hideP fun Rz0 hRz0 => ?_
      obtain ⟨o1, o2, o3, e, G⟩ := hz6
      subst hRz0
      subst e
      obtain ⟨h, hh', ha⟩ := paired_getL pr hx
      have gh := gd h (List.mem_of_getElem? hh')
      refine ⟨x, h, rfl, ha.ts G.same.tups, gh, fun l zs H2 hl el s2 pz => ?_⟩
      have nlD : l ≠ D := fun z => by subst z; rw [G.at'] at hl; cases hl
      have G2 := G.more s2
      refine ⟨l, rfl, ⟨_, SqL.of el⟩, WS zs.length (fun j σ H'' => ∃ o2 o3, σ = [some x, o2, o3] ∧ Grow H H'' D (((hs.take i).flatMap namesH ++ ((rowsH h).take j).map Prod.fst).map V.str) ∧ H'' l = some (.lst zs) ∧ Tups H2 H''), ws0 ⟨o2, o3, rfl, by simpa using G2, el, Tups.refl _⟩, ct_list (xs := zs) _ (fun j σ H'' _ hz4 => by obtain ⟨_, _, _, _, e', _⟩ := hz4; exact SqL.of e') (fun σ H'' ⟨o2', o3', e', G', _, _⟩ => nxs hi ⟨_, _, _, e', ?_⟩) (fun j y σ H'' hy hj hz6 => ?_)⟩
      · rw [pz.length, List.take_length] at G'
        rw [List.take_add_one, hh', List.flatMap_append]
        simpa [namesH] using G'
      · refine hideP fun Rz0 hRz0 => ?_
        obtain ⟨o2', o3', e', G', el', t'⟩ := hz6
        subst hRz0
        subst e'
        obtain ⟨rr, hrr, ra⟩ := paired_getL pz hy
        obtain ⟨ra1, rfl, ra2⟩ := ra.ts t'
        refine ⟨ra1, _, rfl, SqT.of ra2, rfl, _, _, rfl, _, _, rfl, rfl, ?_⟩
        have hl1 : ((hs.take i).flatMap namesH).length ≤ (hs.take i).length * 625 := by
          rw [List.flatMap_def]
          have z := flat_len (l := (hs.take i).map namesH) (n := 625) fun q hq => by
            obtain ⟨k, hk, rfl⟩ := List.mem_map.mp hq
            have z1 := (gd k (List.mem_of_mem_take hk)).len
            show ((rowsH k).map Prod.fst).length ≤ 625
            rw [List.length_map]; exact z1
          rw [List.length_map] at z
          exact z
        have hl2 : (hs.take i).length ≤ 6 := Nat.le_trans (List.length_take_le' i hs) h6
        have hl3 : (hs.take i).length * 625 ≤ 6 * 625 := Nat.mul_le_mul_right 625 hl2
        have hl4 := gh.len
        refine ⟨_, G'.at', by rw [List.length_map, List.length_append, List.length_map, List.length_take]; omega, nxs hj ⟨_, _, rfl, ?_, ?_, t'.put G'.at' (fun _ z => nomatch z)⟩⟩
        · have z := G'.put hD (V.str rr.1)
          rw [List.take_add_one, hrr]
          simpa using z
        · rw [upd_ne nlD]; exact el'
theorem sc_unlike : FnScope ["names"] ["names"] (defScope sUnlike) := ⟨rfl, rfl, rfl, by decide +kernel, rfl, by decide +kernel, by decide +kernel⟩
theorem ok_unlike {f : Addr} {fd : FuncData} (F : Fun K "are_unlike" "are_unlike" sUnlike f fd) (T : Txt mg t8 t6 tR tL) : FnOk P w K mg base CX0 1 f fd ["names"] spUnlike := by
  refine F.ok sc_unlike (fun vs H Q E h => ?_) (fun cdv A outer s H vs Q E hr h => ?_)
  · obtain ⟨x, hs, rfl, _⟩ := h
    rfl
  · obtain ⟨a, ss, rfl, ha, few, q⟩ := h
    have ek : (ss.map (Sum.inr : Str → Key)).map kV = ss.map V.str := by rw [List.map_map]; rfl
    refine ⟨_, (pss_one (ps_ret (pe_cmpR oEq (pe_callB call_lenS rfl T.len PySem.boot_len (pa_cons (pe_callTy (call_set rfl) rfl T.set PyProof.Rows.boot_set (pa_cons (pV 0) pa_nil)) pa_nil)) (pe_callB call_len_seq rfl T.len PySem.boot_len (pa_cons (pV 0) pa_nil)) (nomark _)))), ?_⟩
    refine ⟨a, ss.map Sum.inr, rfl, SqL.of (by rw [ek]; exact ha), by rw [List.length_map]; omega, fun l hl => ?_⟩
    refine ⟨l, ss.map Sum.inr, rfl, upd_same, ?_⟩
    have s1 := (Same.refl H).upd (o := .ext (setφ P w l (ss.map Sum.inr))) hl
    refine ⟨a, ss.map V.str, rfl, .inl (SqL.of (s1 _ _ ha)), ?_⟩
    show Q (.bl (decide (((metI (ss.map Sum.inr) (ss.map (Sum.inr : Str → Key)).length).length : Int) = ((ss.map V.str).length : Int)))) _
    have e : decide (((metI (ss.map Sum.inr) (ss.map (Sum.inr : Str → Key)).length).length : Int) = ((ss.map V.str).length : Int)) = decide ss.Nodup := by
      rw [Bool.eq_iff_iff, decide_eq_true_iff, decide_eq_true_iff, List.length_map, List.length_map]
      constructor
      · intro z
        have z2 := metI_full (ks := ss.map (Sum.inr : Str → Key)) ss.length (by rw [List.length_map]; exact Nat.le_refl _) (by omega)
        rw [List.take_of_length_le (by rw [List.length_map]; exact Nat.le_refl _)] at z2
        rw [List.nodup_iff_pairwise_ne, List.pairwise_map] at z2
        rw [List.nodup_iff_pairwise_ne]
        exact z2.imp fun h e => h (by rw [e])
      · intro z
        have nk : (ss.map (Sum.inr : Str → Key)).Nodup := by
          rw [List.nodup_iff_pairwise_ne, List.pairwise_map]
          exact (List.nodup_iff_pairwise_ne.mp z).imp fun h z => h (Sum.inr.inj z)
        rw [metI_nodup nk _ (by rw [List.length_map]; exact Nat.le_refl _), List.length_take, List.length_map]
        omega
    rw [e]
    exact q _ s1
end
end K02
namespace K02
open PySem L2
theorem good_of {z : Str} (h : isN (.str z) = true) : Good z := by
  simp only [isN, Bool.and_eq_true, decide_eq_true_iff] at h
  exact ⟨h.1.1, h.1.2, fun c hc => List.all_eq_true.mp h.2 c hc⟩
noncomputable def rowOf : Da → Row
  | .tup [.str z, .int j] => (z, j)
  | _ => (⟨#[]⟩, 0)
noncomputable def runOf : Da → List Row
  | .tup xs => xs.map rowOf
  | _ => []
noncomputable def houseOf : Da → House
  | .tup [.str n, .int l, .int h, .int d, .tup rs] => ⟨n, l, h, d, rs.map runOf⟩
  | _ => ⟨⟨#[]⟩, 0, 0, 0, []⟩
noncomputable def housesOf : Da → List House
  | .tup xs => xs.map houseOf
  | _ => []
theorem riseI_pw {is : List Int} (h : riseI is = true) : is.Pairwise (· < ·) := by
  unfold riseI at h
  have key : ∀ (l : List Int), (pairsL l).all (fun p => decide (p.1 < p.2)) = true → l.Pairwise (· < ·) := by
    intro l
    induction l with
    | nil => intro _; exact List.Pairwise.nil
    | cons x l ih =>
      intro hl
      cases l with
      | nil => exact List.pairwise_singleton _ _
      | cons y l =>
        have e : pairsL (x :: y :: l) = (x, y) :: pairsL (y :: l) := rfl
        rw [e, List.all_cons] at hl
        obtain ⟨h1, h2⟩ := Bool.and_eq_true_iff.mp hl
        have p := ih h2
        refine List.pairwise_cons.mpr ⟨fun z hz => ?_, p⟩
        have xy : x < y := of_decide_eq_true h1
        rcases List.mem_cons.mp hz with e | e
        · rw [e]; exact xy
        · have := (List.pairwise_cons.mp p).1 z e; omega
  exact key is h
theorem rows_ok {H : Hp} : ∀ {vs : List V} {xs : List Da}, DaAs H vs xs → xs.all namedD = true → Paired (RowAt H) vs (xs.map rowOf)
  | _, _, .nil, _ => .nil
  | _, _, .cons h r, g => by
    rw [List.all_cons] at g
    obtain ⟨w1, w2⟩ := Bool.and_eq_true_iff.mp g
    refine .cons ?_ (rows_ok r w2)
    obtain ⟨z, j, rfl, _⟩ := named_form w1
    obtain ⟨b, ws, rfl, hb, _, rr⟩ := h.tupE
    obtain ⟨_, _, rfl, q1, q2⟩ := rr.two
    cases q1
    cases q2
    exact ⟨b, rfl, hb⟩
theorem run_ok {H : Hp} {v : V} {d : Da} (h : DaAt H v d) (g : runD d = true) : RunAt H v (runOf d) ∧ GoodRun (runOf d) := by
  cases h with
  | @tup a vs xs ha l60 r =>
    have g' : (!xs.isEmpty && (xs.all namedD && riseI (xs.map fun x => intD (sndD x)))) = true := g
    obtain ⟨g1, g2⟩ := Bool.and_eq_true_iff.mp g'
    obtain ⟨g2, g3⟩ := Bool.and_eq_true_iff.mp g2
    have pr : Paired (RowAt H) vs (xs.map rowOf) := rows_ok r g2
    have len := r.len
    refine ⟨⟨a, vs, rfl, ha, pr⟩, ?_, by show (xs.map rowOf).length ≤ 25; rw [List.length_map]; omega, fun x hx => ?_, ?_⟩
    · intro e
      have : xs = [] := by simpa [runOf] using e
      subst this
      cases g1
    · obtain ⟨y, hy, rfl⟩ := List.mem_map.mp hx
      obtain ⟨z, j, rfl, hz⟩ := named_form (List.all_eq_true.mp g2 y hy)
      exact good_of hz
    · have e : (xs.map fun x => intD (sndD x)) = (xs.map rowOf).map Prod.snd := by
        rw [List.map_map]
        refine List.map_congr_left fun y hy => ?_
        obtain ⟨z, j, rfl, _⟩ := named_form (List.all_eq_true.mp g2 y hy)
        rfl
      have := riseI_pw g3
      rw [e] at this
      exact this
  | _ => cases g
theorem house_form {d : Da} (g : houseD d = true) : ∃ n l h dr rs, d = .tup [.str n, .int l, .int h, .int dr, .tup rs] ∧ isN (.str n) = true ∧ l ≤ h ∧ 0 ≤ dr ∧ rs.all runD = true := by
  unfold houseD at g
  split at g
  · rename_i n l h dr r
    obtain ⟨g1, g2⟩ := Bool.and_eq_true_iff.mp g
    unfold clockD at g1
    obtain ⟨c1, c2⟩ := Bool.and_eq_true_iff.mp g1
    obtain ⟨c2, c3⟩ := Bool.and_eq_true_iff.mp c2
    obtain ⟨c4, c5⟩ := Bool.and_eq_true_iff.mp c2
    obtain ⟨c5, c6⟩ := Bool.and_eq_true_iff.mp c5
    obtain ⟨c7, c8⟩ := Bool.and_eq_true_iff.mp c3
    cases r with
    | tup rs =>
      cases n with
      | str n =>
        cases l with
        | int l =>
          cases h with
          | int h =>
            cases dr with
            | int dr => exact ⟨n, l, h, dr, rs, rfl, c1, of_decide_eq_true c7, of_decide_eq_true c8, g2⟩
            | _ => cases c6
          | _ => cases c5
        | _ => cases c4
      | _ => cases c1
    | _ => cases g2
  · cases g
theorem runs_ok {H : Hp} : ∀ {vs : List V} {xs : List Da}, DaAs H vs xs → xs.all runD = true → Paired (RunAt H) vs (xs.map runOf) ∧ ∀ r ∈ xs.map runOf, GoodRun r
  | _, _, .nil, _ => ⟨.nil, fun h hh => by simp at hh⟩
  | _, _, .cons h r, g => by
    rw [List.all_cons] at g
    obtain ⟨w1, w2⟩ := Bool.and_eq_true_iff.mp g
    obtain ⟨p1, p2⟩ := runs_ok r w2
    obtain ⟨r1, r2⟩ := run_ok h w1
    refine ⟨.cons r1 p1, fun y hy => ?_⟩
    rw [List.map_cons] at hy
    rcases List.mem_cons.mp hy with e | e
    · rw [e]; exact r2
    · exact p2 y e
theorem house_ok {H : Hp} {v : V} {d : Da} (h : DaAt H v d) (g : houseD d = true) : HouseAt H v (houseOf d) ∧ GoodHouse (houseOf d) := by
  obtain ⟨n, l, hh, dr, rs, rfl, g1, g2, g3, g4⟩ := house_form g
  obtain ⟨a, vs, rfl, ha, _, r⟩ := h.tupE
  obtain ⟨_, _, _, _, v5, rfl, q1, q2, q3, q4, q5⟩ := r.five
  cases q1
  cases q2
  cases q3
  cases q4
  obtain ⟨b, ws, rfl, hb, lw, rr⟩ := q5.tupE
  have len := rr.len
  have pr := runs_ok rr g4
  exact ⟨⟨a, .ref b, rfl, ha, b, ws, rfl, hb, pr.1⟩, good_of g1, g2, g3, by show (rs.map runOf).length ≤ 25; rw [List.length_map]; omega, pr.2⟩
theorem houses_ok {H : Hp} : ∀ {vs : List V} {xs : List Da}, DaAs H vs xs → xs.all houseD = true → Paired (HouseAt H) vs (xs.map houseOf) ∧ ∀ h ∈ xs.map houseOf, GoodHouse h
  | _, _, .nil, _ => ⟨.nil, fun h hh => by simp at hh⟩
  | _, _, .cons h r, g => by
    rw [List.all_cons] at g
    obtain ⟨w1, w2⟩ := Bool.and_eq_true_iff.mp g
    obtain ⟨p1, p2⟩ := houses_ok r w2
    obtain ⟨r1, r2⟩ := house_ok h w1
    refine ⟨.cons r1 p1, fun y hy => ?_⟩
    rw [List.map_cons] at hy
    rcases List.mem_cons.mp hy with e | e
    · rw [e]; exact r2
    · exact p2 y e
noncomputable def housesD : Da → Bool
  | .tup xs => decide (1 ≤ xs.length) && (decide (xs.length ≤ 6) && (xs.all houseD && (decide ((xs.map houseOf).map House.name).Nodup && (decide (namesOf (xs.map houseOf)).Nodup && decide ((namesOf (xs.map houseOf)).length ≤ 24)))))
  | _ => false
noncomputable def keyOf : Da → Str × Str
  | .tup (.str a :: .str b :: _) => (a, b)
  | _ => (⟨#[]⟩, ⟨#[]⟩)
noncomputable def pairsH (h : House) : List (Str × Str) := (rowsH h).map fun r => (r.1, h.name)
noncomputable def pairsOf (hs : List House) : List (Str × Str) := hs.flatMap pairsH
theorem pairsH_fst (h : House) : (pairsH h).map Prod.fst = namesH h := by unfold pairsH namesH; rw [List.map_map]; rfl
theorem pairsOf_fst (hs : List House) : (pairsOf hs).map Prod.fst = namesOf hs := by
  unfold pairsOf namesOf
  rw [List.map_flatMap]
  congr 1
  funext h
  exact pairsH_fst h
noncomputable def lookP (ps : List (Str × Str)) (n : Str) : Option Str := (ps.find? fun p => decide (p.1 = n)).map Prod.snd
noncomputable def ownOk (hs : List House) (d : Da) : Bool := match lookP (pairsOf hs) (keyOf d).1, lookP (pairsOf hs) (keyOf d).2 with
  | some a, some b => !decide (a = b)
  | _, _ => false
noncomputable def lettersD (hs : List House) : Da → Bool
  | .tup xs => decide (xs.length ≤ 24) && (xs.all letterD && (xs.all (ownOk hs) && riseP (xs.map keyOf)))
  | _ => false
noncomputable def ledgerD : Da → Bool
  | .tup [h, l] => housesD h && lettersD (housesOf h) l
  | _ => false
noncomputable def Owns (kvs : List (Key × V)) (ps : List (Str × Str)) : Prop := ∀ n, valV kvs (.inr n) = (lookP ps n).map V.str
theorem Owns.put {kvs : List (Key × V)} {ps : List (Str × Str)} {p : Str × Str} (h : Owns kvs ps) (nw : ∀ q ∈ ps, q.1 ≠ p.1) : Owns (putK kvs (.inr p.1) (.str p.2)) (ps ++ [p]) := fun n => by
  rw [valV_put]
  unfold lookP
  rw [List.find?_append]
  by_cases e : n = p.1
  · subst e
    have z : ps.find? (fun q => decide (q.1 = p.1)) = none := List.find?_eq_none.mpr fun q hq w => nw q hq (of_decide_eq_true w)
    rw [if_pos rfl, z]
    simp
  · rw [if_neg (fun z => e (Sum.inr.inj z)), h n]
    unfold lookP
    have z : ([p] : List (Str × Str)).find? (fun q => decide (q.1 = n)) = none := List.find?_eq_none.mpr fun q hq w => by
      rw [List.mem_singleton.mp hq] at w
      exact e (of_decide_eq_true w).symm
    rw [z]
    cases ps.find? (fun q => decide (q.1 = n)) <;> rfl
noncomputable def spLetters : Sp := fun vs H Q _ => ∃ (x y : V) (hs : List House) (d : Da), vs = [x, y] ∧ DaAt H x d ∧ HousesAt H y hs ∧ GoodHouses hs ∧ ∀ H', Same H H' → Q (.bl (lettersD hs d)) H'
theorem oEqS {X : Cx} : OpR X (compareOp .Eq) (fS fun i j => .bl (decide (i = j))) := by
  intro pins s σ H x y v u Q I rx ry q
  refine op_eq pins s σ H x y v u Q I rx ry ?_
  cases x <;> cases y <;> first
    | exact (show False from q).elim
    | (refine ⟨rfl, ?_⟩
       rename_i i j
       have e : decide (V.str i = V.str j) = decide (i = j) := by rw [Bool.eq_iff_iff]; simp
       rw [e]; exact q)
section
variable {P : Program} {w : World} {K : PySem.W.Frag} {mg : Str → Option Value} {base : Heap} {t8 t6 tR tL : Tok}
theorem sc_houses : FnScope ["thing", "names"] ["thing"] (defScope sHouses) := ⟨rfl, rfl, rfl, by decide +kernel, rfl, by decide +kernel, by decide +kernel⟩
theorem ok_houses {f f_house f_rownames f_unlike : Addr} {fd fd_house fd_rownames fd_unlike : FuncData} (F : Fun K "are_houses" "are_houses" sHouses f fd) (T : Txt mg t8 t6 tR tL)
    (G_house : FnOk P w K mg base CX0 4 f_house fd_house ["thing"] (spD houseD)) (m_house : mg "is_house" = some (.ref f_house)) (k_house : PySem.W.keepIn K (.ref f_house) = true) (b_house : Binds K fd_house ["thing"] [])
    (G_rownames : FnOk P w K mg base CX0 4 f_rownames fd_rownames ["houses"] spRowNames) (m_rownames : mg "row_names" = some (.ref f_rownames)) (k_rownames : PySem.W.keepIn K (.ref f_rownames) = true) (b_rownames : Binds K fd_rownames ["houses"] [])
    (G_unlike : FnOk P w K mg base CX0 4 f_unlike fd_unlike ["names"] spUnlike) (m_unlike : mg "are_unlike" = some (.ref f_unlike)) (k_unlike : PySem.W.keepIn K (.ref f_unlike) = true) (b_unlike : Binds K fd_unlike ["names"] []) : FnOk P w K mg base CX0 5 f fd ["thing"] (spD housesD) := by
  refine F.ok sc_houses (fun vs H Q E h => ?_) (fun cdv A outer s H vs Q E hr h => ?_)
  · obtain ⟨x, d, rfl, _⟩ := h
    rfl
  · obtain ⟨x, d, rfl, hd, q⟩ := h
    have sl0 : sizeLine = 16777216 := sizeLine_eq
    obtain ⟨_, ⟨T', ty, kt⟩, _⟩ := hd.kind (K := K)
    refine ⟨_, (pss_cons (ps_if (ptOr (pt_not (ptV (pe_callB call_isi rfl T.isi PyProof.Rows.boot_isinstance (pa_cons (pV 0) (pa_cons (pe_bltn (v := .ty "tuple") rfl T.tuple PyProof.Rows.boot_tuple rfl) pa_nil))))) (pw_or1 (pt_not (ptCh oLe oLe pe_int (pe_callB call_len_seq rfl T.len PySem.boot_len (pa_cons (pV 0) pa_nil)) (pe_glob (v := .int 6) rfl T.mostH ⟨_, rfl⟩))))) (pss_one (ps_ret pe_bl)) pss_nil) (pss_cons (ps_if (pt_not (ptV (pe_callB (call_all rfl) rfl T.all PyProof.Rows.boot_all (pa_cons (pe_comp (scX := defScope sHouses) (own := ["house"]) (cap := []) (ix := []) rfl rfl ⟨rfl, by decide +kernel, by decide +kernel, by decide +kernel, rfl, by decide +kernel⟩ (pi_tup (pV 0)) (fun b => (pg_name (i := 0) (show (["house"] : List Str).Nodup by decide +kernel) rfl (Or.inl rfl))) (fun b => pif_nil) (fun b => (pe_call G_house hr rfl m_house k_house b_house .nil pass0 (pa_cons (pV 0) pa_nil)))) pa_nil)))) (pss_one (ps_ret pe_bl)) pss_nil) (pss_cons (ps_set (i := 1) sc_houses.nd rfl (Or.inl rfl) (pe_call G_rownames hr rfl m_rownames k_rownames b_rownames .nil pass0 (pa_cons (pV 0) pa_nil))) (pss_one (ps_ret (peAnd (pe_call G_unlike hr rfl m_unlike k_unlike b_unlike .nil pass0 (pa_cons (pe_comp (scX := defScope sHouses) (own := ["house"]) (cap := []) (ix := []) rfl rfl ⟨rfl, by decide +kernel, by decide +kernel, by decide +kernel, rfl, by decide +kernel⟩ (pi_tup (pV 0)) (fun b => (pg_name (i := 0) (show (["house"] : List Str).Nodup by decide +kernel) rfl (Or.inl rfl))) (fun b => pif_nil) (fun b => (pe_ix iIxT (pV 0) pe_int (fun _ _ => rfl)))) pa_nil)) (peAnd (pe_call G_unlike hr rfl m_unlike k_unlike b_unlike .nil pass0 (pa_cons (pV 1) pa_nil)) (pe_one (pe_cmpR oLe (pe_callB call_len_seq rfl T.len PySem.boot_len (pa_cons (pV 1) pa_nil)) (pe_glob (v := .int 24) rfl T.mostR ⟨_, rfl⟩) (nomark _)))))))))), ?_⟩
    refine ⟨_, _, _, _, rfl, ty, kt, ?_⟩
    cases d with
    | tup xs =>
      refine hideP fun Rz0 hRz0 => ?_
      obtain ⟨c, vs, ez17, hc, l60, r⟩ := hd.tupE
      subst hRz0
      subst ez17
      have len := r.len
      have q : ∀ H', Same H H' → Q (.bl (decide (1 ≤ xs.length) && (decide (xs.length ≤ 6) && (xs.all houseD && (decide ((xs.map houseOf).map House.name).Nodup && (decide (namesOf (xs.map houseOf)).Nodup && decide ((namesOf (xs.map houseOf)).length ≤ 24))))))) H' := q
      refine ⟨c, vs, rfl, .inr (SqT.of hc), ?_⟩
      refine ite2 (fun z => ?_) (fun z => ?_)
      · have z1 : 1 ≤ xs.length := by have := of_decide_eq_true z; omega
        rw [decide_eq_true z1, Bool.true_and] at q
        by_cases z2 : xs.length ≤ 6
        · rw [decide_eq_true z2, Bool.true_and] at q
          refine ite2 (fun w => by rw [decide_eq_true (show (vs.length : Int) ≤ 6 by omega)] at w; cases w) (fun w => ?_)
          refine ⟨c, rfl, ⟨_, SqT.of hc⟩, fun D hD => comp_map (xs := vs) (ys := (xs.map houseD).map V.bl) hD (SqT.of hc) (by omega) (by rw [List.length_map, List.length_map]; omega) (fun i x H' hx s2 b R hR => ?_) (fun H' s2 e => ?_)⟩
          · obtain ⟨y, hy, ya⟩ := r.get hx
            exact ⟨x, y, rfl, ya.same s2, fun H'' s => hR H'' _ (by rw [List.getElem?_map, List.getElem?_map, hy]; rfl) s⟩
          · refine ⟨D, _, rfl, SqL.of e, ?_⟩
            rw [all_of]
            cases ea : xs.all houseD with
            | false => rw [ea] at q; exact q H' s2
            | true =>
              rw [ea, Bool.true_and] at q
              obtain ⟨pr, gd⟩ := houses_ok r ea
              have hc2 := s2 _ _ hc
              have lh : (xs.map houseOf).length ≤ 6 := by rw [List.length_map]; exact z2
              refine ⟨.ref c, xs.map houseOf, rfl, ⟨c, vs, rfl, hc2, paired_mono (fun _ _ z => z.ts s2.tups) pr⟩, lh, gd, fun l H2 hl el s3 => ?_⟩
              refine ⟨c, rfl, ⟨_, SqT.of (s3 _ _ hc2)⟩, fun D2 hD2 => comp_map (xs := vs) (ys := (xs.map houseOf).map fun h => V.str h.name) hD2 (SqT.of (s3 _ _ hc2)) (by omega) (by rw [List.length_map, List.length_map]; omega) (fun i x H3 hx s4 b R hR => ?_) (fun H3 s4 e2 => ?_)⟩
              · obtain ⟨h, hh', ha⟩ := paired_getL pr hx
                refine hideP fun Rz0 hRz0 => ?_
                obtain ⟨a1, b1, ez18, g1, _⟩ := ha.ts ((s2.trans s3).trans s4).tups
                subst hRz0
                subst ez18
                refine ixTup (SqT.of g1) (i := 0) (v := .str h.name) (by rfl) ?_
                exact hR H3 _ (by rw [List.getElem?_map, hh']; rfl) (Same.refl _)
              · refine ⟨D2, (xs.map houseOf).map House.name, rfl, by rw [List.map_map]; exact e2, by rw [List.length_map]; omega, fun H4 s5 => ?_⟩
                have S4 := (((s2.trans s3).trans s4).trans s5)
                cases en : decide ((xs.map houseOf).map House.name).Nodup with
                | false => rw [en] at q; exact q H4 S4
                | true =>
                  rw [en, Bool.true_and] at q
                  have el4 := (s4.trans s5) _ _ el
                  have big : (namesOf (xs.map houseOf)).length ≤ 625 * 6 := by
                    unfold namesOf
                    rw [List.flatMap_def]
                    have z := flat_len (l := (xs.map houseOf).map namesH) (n := 625) fun q hq => by
                      obtain ⟨k, hk, rfl⟩ := List.mem_map.mp hq
                      have z1 := (gd k hk).len
                      show ((rowsH k).map Prod.fst).length ≤ 625
                      rw [List.length_map]; exact z1
                    rw [List.length_map] at z
                    have : (xs.map houseOf).length * 625 ≤ 6 * 625 := Nat.mul_le_mul_right 625 lh
                    omega
                  refine ⟨l, namesOf (xs.map houseOf), rfl, el4, by omega, fun H5 s6 => ?_⟩
                  cases er : decide (namesOf (xs.map houseOf)).Nodup with
                  | false => rw [er] at q; exact q H5 (S4.trans s6)
                  | true =>
                    rw [er, Bool.true_and] at q
                    refine ⟨l, _, rfl, .inl (SqL.of (s6 _ _ el4)), ?_⟩
                    have e9 : decide ((((namesOf (xs.map houseOf)).map V.str).length : Int) ≤ 24) = decide ((namesOf (xs.map houseOf)).length ≤ 24) := by
                      rw [List.length_map, Bool.eq_iff_iff, decide_eq_true_iff, decide_eq_true_iff]; omega
                    show Q (.bl (decide ((((namesOf (xs.map houseOf)).map V.str).length : Int) ≤ 24))) H5
                    rw [e9]
                    exact q H5 (S4.trans s6)
        · rw [decide_eq_false z2] at q
          refine ite2 (fun w => q H (Same.refl H)) (fun w => ?_)
          exact absurd (by rw [decide_eq_false (show ¬ (vs.length : Int) ≤ 6 by omega)]; rfl) w
      · have z1 : ¬ 1 ≤ xs.length := fun w => z (decide_eq_true (by omega))
        rw [decide_eq_false z1] at q
        exact q H (Same.refl H)
    | _ => exact q H (Same.refl H)
theorem sc_ledger : FnScope ["thing"] ["thing"] (defScope sLedger) := ⟨rfl, rfl, rfl, by decide +kernel, rfl, by decide +kernel, by decide +kernel⟩
theorem ok_ledger {f f_parts f_houses f_letters : Addr} {fd fd_parts fd_houses fd_letters : FuncData} (F : Fun K "is_ledger" "is_ledger" sLedger f fd)
    (G_parts : FnOk P w K mg base CX0 5 f_parts fd_parts ["thing", "many"] spParts) (m_parts : mg "has_parts" = some (.ref f_parts)) (k_parts : PySem.W.keepIn K (.ref f_parts) = true) (b_parts : Binds K fd_parts ["thing", "many"] [])
    (G_houses : FnOk P w K mg base CX0 5 f_houses fd_houses ["thing"] (spD housesD)) (m_houses : mg "are_houses" = some (.ref f_houses)) (k_houses : PySem.W.keepIn K (.ref f_houses) = true) (b_houses : Binds K fd_houses ["thing"] [])
    (G_letters : FnOk P w K mg base CX0 5 f_letters fd_letters ["thing", "houses"] spLetters) (m_letters : mg "are_letters" = some (.ref f_letters)) (k_letters : PySem.W.keepIn K (.ref f_letters) = true) (b_letters : Binds K fd_letters ["thing", "houses"] []) : FnOk P w K mg base CX0 6 f fd ["thing"] (spD ledgerD) := by
  refine F.ok sc_ledger (fun vs H Q E h => ?_) (fun cdv A outer s H vs Q E hr h => ?_)
  · obtain ⟨x, d, rfl, _⟩ := h
    rfl
  · obtain ⟨x, d, rfl, hd, q⟩ := h
    refine ⟨_, (pss_one (ps_ret (peAnd (pe_call G_parts hr rfl m_parts k_parts b_parts .nil pass0 (pa_cons (pV 0) (pa_cons pe_int pa_nil))) (peAnd (pe_call G_houses hr rfl m_houses k_houses b_houses .nil pass0 (pa_cons (pe_ix iIxT (pV 0) pe_int (fun _ _ => rfl)) pa_nil)) (pe_one (pe_call G_letters hr rfl m_letters k_letters b_letters .nil pass0 (pa_cons (pe_ix iIxT (pV 0) pe_int (fun _ _ => rfl)) (pa_cons (pe_ix iIxT (pV 0) pe_int (fun _ _ => rfl)) pa_nil)))))))), ?_⟩
    refine ⟨x, d, 2, rfl, hd, ?_⟩
    have no : ∀ d', partsD d' 2 = false → ledgerD d' = false := fun d' h => by
      cases d' with
      | tup xs =>
        match xs, h with
        | [], _ => rfl
        | [_], _ => rfl
        | [_, _], h => cases h
        | _ :: _ :: _ :: _, _ => rfl
      | _ => rfl
    cases e : partsD d 2 with
    | false =>
      have z := q H (Same.refl H)
      rw [no d e] at z
      exact z
    | true =>
      cases d with
      | tup xs =>
        refine hideP fun Rz0 hRz0 => ?_
        obtain ⟨a, vs, ez19, ha, l60, r⟩ := hd.tupE
        subst hRz0
        subst ez19
        obtain ⟨y, z, rfl⟩ := len2 (of_decide_eq_true e)
        refine hideP fun Rz0 hRz0 => ?_
        obtain ⟨v1, v2, ez20, h1, h2⟩ := r.two
        subst hRz0
        subst ez20
        have q : ∀ H', Same H H' → Q (.bl (housesD y && lettersD (housesOf y) z)) H' := q
        refine ixTup (SqT.of ha) (i := 0) (v := v1) (by rfl) ?_
        refine ⟨v1, y, rfl, h1, fun H1 s1 => ?_⟩
        cases e1 : housesD y with
        | false => rw [e1] at q; exact q H1 s1
        | true =>
          rw [e1, Bool.true_and] at q
          have ha1 := s1 _ _ ha
          refine ixTup (SqT.of ha1) (i := 1) (v := v2) (by rfl) ?_
          refine ixTup (SqT.of ha1) (i := 0) (v := v1) (by rfl) ?_
          have gh : HousesAt H1 v1 (housesOf y) ∧ GoodHouses (housesOf y) := by
            cases y with
            | tup ys =>
              refine hideP fun Rz0 hRz0 => ?_
              obtain ⟨c, ws, ez21, hc, _, rr⟩ := (h1.same s1).tupE
              subst hRz0
              subst ez21
              simp only [housesD, Bool.and_eq_true, decide_eq_true_iff] at e1
              refine hideP fun Rz0 hRz0 => ?_
              obtain ⟨w1, w2, w3, w4, w5, w6⟩ := e1
              subst hRz0
              obtain ⟨p1, p2⟩ := houses_ok rr w3
              exact ⟨⟨c, ws, rfl, hc, p1⟩, by show 1 ≤ (ys.map houseOf).length; rw [List.length_map]; exact w1, by show (ys.map houseOf).length ≤ 6; rw [List.length_map]; exact w2, p2, w4, w5, w6⟩
            | _ => cases e1
          refine ⟨v2, v1, housesOf y, z, rfl, h2.same s1, gh.1, gh.2, fun H2 s2 => ?_⟩
          exact q H2 (s1.trans s2)
      | _ => cases e
end
end K02
namespace K02
open PySem L2
theorem letter_form {d : Da} (g : letterD d = true) : ∃ s t l m, d = .tup [.str s, .str t, .int l, m] := by
  unfold letterD at g
  split at g
  · rename_i s t l m
    obtain ⟨g1, g2⟩ := Bool.and_eq_true_iff.mp g
    obtain ⟨g2, g3⟩ := Bool.and_eq_true_iff.mp g2
    obtain ⟨g3, g4⟩ := Bool.and_eq_true_iff.mp g3
    cases s with
    | str s =>
      cases t with
      | str t =>
        cases l with
        | int l => exact ⟨s, t, l, m, rfl⟩
        | _ => cases g3
      | _ => cases g2
    | _ => cases g1
  · cases g
noncomputable def PvH (O : Addr) (hs : List House) (H1 : Hp) : Nat → St → Hp → Prop := fun i σ H' => ∃ (o1 o2 o3 : Option V) (kvs : List (Key × V)), σ = [o1, o2, o3] ∧ H' O = some (.dK kvs) ∧ kvs.length ≤ (pairsOf (hs.take i)).length ∧ Owns kvs (pairsOf (hs.take i)) ∧ Same H1 H'
noncomputable def PvI (c d O : Addr) (hs : List House) (xs : List Da) (H2 : Hp) : Nat → St → Hp → Prop := fun i σ H' => H' = H2 ∧ (xs.take i).all (ownOk hs) = true ∧ ∃ (o3 o4 o5 o6 : Option V), σ = [some (.ref c), some (.ref d), some (.ref O), o3, o4, o5, o6]
noncomputable def PvJ (D2 : Addr) (xs : List Da) (H2 : Hp) : Nat → Hp → Prop := fun i H' => ∃ as : List Addr, Grow H' H' D2 (as.map V.ref) ∧ Same H2 H' ∧ Paired (fun a k => H' a = some (.tup ((kP k).map kV))) as ((xs.map keyOf).take i)
noncomputable def PvK (x : V) (O l : Addr) (hs : List House) (h : House) (i : Nat) (zs : List V) (H1 H3 : Hp) : Nat → St → Hp → Prop := fun j σ H'' => ∃ (o2 o3 : Option V) (kvs' : List (Key × V)), σ = [some x, o2, o3] ∧ H'' O = some (.dK kvs') ∧ kvs'.length ≤ (pairsOf (hs.take i) ++ (pairsH h).take j).length ∧ Owns kvs' (pairsOf (hs.take i) ++ (pairsH h).take j) ∧ Same H1 H'' ∧ H'' l = some (.lst zs) ∧ Tups H3 H''
section
variable {P : Program} {w : World} {K : PySem.W.Frag} {mg : Str → Option Value} {base : Heap} {t8 t6 tR tL : Tok}
theorem sc_letters : FnScope ["thing", "houses", "owners", "sent", "taken", "least", "most"] ["thing", "houses"] (defScope sLetters) := ⟨rfl, rfl, rfl, by decide +kernel, rfl, by decide +kernel, by decide +kernel⟩
theorem ok_letters {f f_letter f_rowsin f_rising : Addr} {fd fd_letter fd_rowsin fd_rising : FuncData} (F : Fun K "are_letters" "are_letters" sLetters f fd) (T : Txt mg t8 t6 tR tL)
    (G_letter : FnOk P w K mg base CX0 2 f_letter fd_letter ["thing"] (spD letterD)) (m_letter : mg "is_letter" = some (.ref f_letter)) (k_letter : PySem.W.keepIn K (.ref f_letter) = true) (b_letter : Binds K fd_letter ["thing"] [])
    (G_rowsin : FnOk P w K mg base CX0 2 f_rowsin fd_rowsin ["house"] spRowsIn) (m_rowsin : mg "rows_in" = some (.ref f_rowsin)) (k_rowsin : PySem.W.keepIn K (.ref f_rowsin) = true) (b_rowsin : Binds K fd_rowsin ["house"] [])
    (G_rising : FnOk P w K mg base CX0 2 f_rising fd_rising ["values"] spRising) (m_rising : mg "is_rising" = some (.ref f_rising)) (k_rising : PySem.W.keepIn K (.ref f_rising) = true) (b_rising : Binds K fd_rising ["values"] []) : FnOk P w K mg base CX0 3 f fd ["thing", "houses"] spLetters := by
  refine F.ok sc_letters (fun vs H Q E h => ?_) (fun cdv A outer s H vs Q E hr h => ?_)
  · obtain ⟨x, y, hs, d, rfl, _⟩ := h
    rfl
  · obtain ⟨x, y, hs, da, rfl, hda, ⟨d, ws, rfl, hd, ph⟩, gh, q⟩ := h
    have sl0 : sizeLine = 16777216 := sizeLine_eq
    have lenh := ph.length
    have h6 := gh.hi
    obtain ⟨_, ⟨T', ty, kt⟩, _⟩ := hda.kind (K := K)
    refine ⟨_, (pss_cons (ps_if (ptOr (pt_not (ptV (pe_callB call_isi rfl T.isi PyProof.Rows.boot_isinstance (pa_cons (pV 0) (pa_cons (pe_bltn (v := .ty "tuple") rfl T.tuple PyProof.Rows.boot_tuple rfl) pa_nil))))) (pw_or1 (ptC oGt (pe_callB call_len_seq rfl T.len PySem.boot_len (pa_cons (pV 0) pa_nil)) (pe_glob (v := .int 24) rfl T.mostL ⟨_, rfl⟩) (nomark _)))) (pss_one (ps_ret pe_bl)) pss_nil) (pss_cons (ps_if (pt_not (ptV (pe_callB (call_all rfl) rfl T.all PyProof.Rows.boot_all (pa_cons (pe_comp (scX := defScope sLetters) (own := ["letter"]) (cap := []) (ix := []) rfl rfl ⟨rfl, by decide +kernel, by decide +kernel, by decide +kernel, rfl, by decide +kernel⟩ (pi_tup (pV 0)) (fun b => (pg_name (i := 0) (show (["letter"] : List Str).Nodup by decide +kernel) rfl (Or.inl rfl))) (fun b => pif_nil) (fun b => (pe_call G_letter hr rfl m_letter k_letter b_letter .nil pass0 (pa_cons (pV 0) pa_nil)))) pa_nil)))) (pss_one (ps_ret pe_bl)) pss_nil) (pss_cons (ps_setCompD (i := 2) sc_letters.nd rfl rfl (scX := defScope sLetters) (own := ["house", "row", "reading"]) (cap := []) (ix := []) rfl rfl ⟨rfl, by decide +kernel, by decide +kernel, by decide +kernel, rfl, by decide +kernel⟩ (pi_tup (pV 1)) (fun b => (pg_name (i := 0) (show (["house", "row", "reading"] : List Str).Nodup by decide +kernel) rfl (Or.inl rfl))) (fun b => pif_nil) (fun b => pi_list (pe_call G_rowsin hr rfl m_rowsin k_rowsin b_rowsin .nil pass0 (pa_cons (pV 0) pa_nil))) (fun b => (pg_tup rfl (pgs_cons (pg_name (i := 1) (show (["house", "row", "reading"] : List Str).Nodup by decide +kernel) rfl (Or.inl rfl)) (pgs_cons (pg_name (i := 2) (show (["house", "row", "reading"] : List Str).Nodup by decide +kernel) rfl (Or.inl rfl)) pgs_nil)))) (fun b => pif_nil) (fun b => pV 1) (fun b => (pe_ix iIxT (pV 0) pe_int (fun _ _ => rfl)))) (pss_cons (ps_for PassesOwn.never rfl (pi_tup (pV 0)) (pg_tup rfl (pgs_cons (pg_name (i := 3) sc_letters.nd rfl (Or.inl rfl)) (pgs_cons (pg_name (i := 4) sc_letters.nd rfl (Or.inl rfl)) (pgs_cons (pg_name (i := 5) sc_letters.nd rfl (Or.inl rfl)) (pgs_cons (pg_name (i := 6) sc_letters.nd rfl (Or.inl rfl)) pgs_nil))))) (pss_one (ps_if (ptOr (pt_cmp (pc_dnotin (hu_of hr) (pV 3) (pV 2))) (pw_or (pt_cmp (pc_dnotin (hu_of hr) (pV 4) (pV 2))) (pw_or1 (ptC oEqS (pe_dget (hu_of hr) (pV 2) (pV 3) (fun _ _ => rfl)) (pe_dget (hu_of hr) (pV 2) (pV 4) (fun _ _ => rfl)) (nomark _))))) (pss_one (ps_ret pe_bl)) pss_nil))) (pss_one (ps_ret (pe_call G_rising hr rfl m_rising k_rising b_rising .nil pass0 (pa_cons (pe_comp (scX := defScope sLetters) (own := ["letter"]) (cap := []) (ix := []) rfl rfl ⟨rfl, by decide +kernel, by decide +kernel, by decide +kernel, rfl, by decide +kernel⟩ (pi_tup (pV 0)) (fun b => (pg_name (i := 0) (show (["letter"] : List Str).Nodup by decide +kernel) rfl (Or.inl rfl))) (fun b => pif_nil) (fun b => (pe_slice sl_tup (pV 0) po_none (poI pe_int)))) pa_nil)))))))), ?_⟩
    refine ⟨_, _, _, _, rfl, ty, kt, ?_⟩
    cases da with
    | tup xs =>
      refine hideP fun Rz0 hRz0 => ?_
      obtain ⟨c, vs, ez22, hc, l25, r⟩ := hda.tupE
      subst hRz0
      subst ez22
      have len := r.len
      have q : ∀ H', Same H H' → Q (.bl (decide (xs.length ≤ 24) && (xs.all letterD && (xs.all (ownOk hs) && riseP (xs.map keyOf))))) H' := q
      refine ⟨c, vs, rfl, .inr (SqT.of hc), ?_⟩
      refine ite2 (fun z => ?_) (fun z => ?_)
      · rw [decide_eq_false (show ¬ xs.length ≤ 24 by have := of_decide_eq_true z; omega)] at q
        exact q H (Same.refl H)
      rw [decide_eq_true (show xs.length ≤ 24 by
        have : ¬ (24 : Int) < (vs.length : Int) := fun w => z (decide_eq_true w)
        omega), Bool.true_and] at q
      refine ⟨c, rfl, ⟨_, SqT.of hc⟩, fun D hD => comp_map (xs := vs) (ys := (xs.map letterD).map V.bl) hD (SqT.of hc) (by omega) (by rw [List.length_map, List.length_map]; omega) (fun i x H' hx s2 b R hR => ?_) (fun H1 s1 e => ?_)⟩
      · obtain ⟨y, hy, ya⟩ := r.get hx
        exact ⟨x, y, rfl, ya.same s2, fun H'' s => hR H'' _ (by rw [List.getElem?_map, List.getElem?_map, hy]; rfl) s⟩
      refine ⟨D, _, rfl, SqL.of e, ?_⟩
      rw [all_of]
      cases ea : xs.all letterD with
      | false => rw [ea] at q; exact q H1 s1
      | true =>
      rw [ea, Bool.true_and] at q
      have hc1 := s1 _ _ hc
      have hd1 := s1 _ _ hd
      refine ⟨d, rfl, ⟨_, SqT.of hd1⟩, fun O hO => ⟨WS ws.length (PvH O hs H1), ws0 ⟨none, none, none, [], rfl, upd_same, Nat.zero_le _, fun n => rfl, (Same.refl H1).upd hO⟩, fun b => ct_tup (xs := ws) _ (fun i σ H' _ hz7 => by obtain ⟨_, _, _, _, _, _, _, _, G⟩ := hz7; exact SqT.of (G _ _ hd1)) (fun σ H2 hz8 => ?_) (fun i x σ H' hx hi hz9 => ?_)⟩⟩
      · refine hideP fun Rz0 hRz0 => ?_
        obtain ⟨_, _, _, kvs, _, eO, kl, ow, s2⟩ := hz8
        subst hRz0
        rw [lenh, List.take_length] at kl ow
        have hc2 := s2 _ _ hc1
        have S2 : Same H H2 := s1.trans s2
        have formL : ∀ (i : Nat) (y : Da), xs[i]? = some y → ∃ s t l m, y = .tup [.str s, .str t, .int l, m] := fun i y hy => letter_form (List.all_eq_true.mp ea y (List.mem_of_getElem? hy))
        refine ⟨c, rfl, ⟨_, SqT.of hc2⟩, for_tup (xs := vs) (PvI c d O hs xs H2) ⟨rfl, rfl, none, none, none, none, rfl⟩ (fun i σ H' _ hz7 => by obtain ⟨e', _⟩ := hz7; rw [e']; exact SqT.of hc2) (fun i x σ H' hx hz8 => ?_) (fun σ H' hz9 => ?_)⟩
        · refine hideP fun Rz0 hRz0 => ?_
          obtain ⟨e', al, o3, o4, o5, o6, eσ⟩ := hz8
          subst hRz0
          have e2' := e'.symm
          subst e2' eσ
          obtain ⟨y, hy, ya⟩ := r.get hx
          refine hideP fun Rz0 hRz0 => ?_
          obtain ⟨s, t, l, m, ez23⟩ := formL i y hy
          subst hRz0
          subst ez23
          refine hideP fun Rz0 hRz0 => ?_
          obtain ⟨a1, us, ez24, g1, _, ru⟩ := (ya.same S2).tupE
          subst hRz0
          subst ez24
          refine hideP fun Rz0 hRz0 => ?_
          obtain ⟨_, _, _, u4, ez25, q1, q2, q3, q4⟩ := ru.four
          subst hRz0
          subst ez25
          cases q1
          cases q2
          cases q3
          have bad : ownOk hs (.tup [.str s, .str t, .int l, m]) = false → Q (.bl false) H2 := fun hb => by
            have w := q H2 S2
            have : xs.all (ownOk hs) = false := by
              rw [List.all_eq_false]
              exact ⟨_, List.mem_of_getElem? hy, by rw [hb]; decide⟩
            rw [this, Bool.false_and] at w
            exact w
          have eo : ownOk hs (.tup [.str s, .str t, .int l, m]) = (match lookP (pairsOf hs) s, lookP (pairsOf hs) t with | some a, some b => !decide (a = b) | _, _ => false) := rfl
          refine ⟨a1, _, rfl, SqT.of g1, rfl, _, _, rfl, _, _, rfl, _, _, rfl, _, _, rfl, rfl, ?_⟩
          refine ⟨O, _, rfl, DGet.k (k := Sum.inr s) eO, _, rfl, ?_⟩
          rw [ow s]
          cases e1 : lookP (pairsOf hs) s with
          | none => exact bad (by rw [eo, e1])
          | some n1 =>
            refine ⟨O, _, rfl, DGet.k (k := Sum.inr t) eO, _, rfl, ?_⟩
            rw [ow t]
            cases e2 : lookP (pairsOf hs) t with
            | none => exact bad (by rw [eo, e1, e2])
            | some n2 =>
              have w1 : valV kvs (.inr s) = some (.str n1) := by rw [ow s, e1]; rfl
              have w2 : valV kvs (.inr t) = some (.str n2) := by rw [ow t, e2]; rfl
              refine ⟨O, _, rfl, w1 ▸ DGet.k (k := Sum.inr s) eO, ?_⟩
              refine ⟨O, _, rfl, w2 ▸ DGet.k (k := Sum.inr t) eO, ?_⟩
              refine ite2 (fun z => ?_) (fun z => ?_)
              · refine bad ?_
                rw [eo, e1, e2]
                show (!decide (n1 = n2)) = false
                rw [z]; rfl
              · refine ⟨rfl, ?_, _, _, _, _, rfl⟩
                rw [List.take_add_one, hy, List.all_append, al, Bool.true_and]
                show (ownOk hs _ && true) = true
                rw [eo, e1, e2, Bool.and_true]
                show (!decide (n1 = n2)) = true
                rw [(Bool.not_eq_true _).mp z]; rfl
        · refine hideP fun Rz0 hRz0 => ?_
          obtain ⟨e', al, o3, o4, o5, o6, eσ⟩ := hz9
          subst hRz0
          have e2' := e'.symm
          subst e2' eσ
          rw [List.take_of_length_le (by omega)] at al
          rw [al, Bool.true_and] at q
          refine ⟨c, rfl, ⟨_, SqT.of hc2⟩, fun D2 hD2 => comp_tup (xs := vs) (PvJ D2 xs H2) ⟨[], ⟨upd_same, Same.refl _⟩, (Same.refl H2).upd hD2, .nil⟩ (fun i H' _ hz10 => by obtain ⟨_, _, s3, _⟩ := hz10; exact SqT.of (s3 _ _ hc2)) (fun H3 hz11 => ?_) (fun i x H3 hx hi hz12 b => ?_)⟩
          · refine hideP fun Rz0 hRz0 => ?_
            obtain ⟨as, G, s3, pa⟩ := hz11
            subst hRz0
            have e4 : (xs.map keyOf).take vs.length = xs.map keyOf := List.take_of_length_le (by rw [List.length_map]; omega)
            rw [e4] at pa
            have l4 := pa.length
            rw [List.length_map] at l4
            refine ⟨D2, _, _, rfl, G.at', by rw [List.length_map]; omega, .inr ⟨as, xs.map keyOf, rfl, pa, rfl⟩, fun H4 s4 => ?_⟩
            exact q H4 ((S2.trans s3).trans s4)
          · refine hideP fun Rz0 hRz0 => ?_
            obtain ⟨as, G, s3, pa⟩ := hz12
            subst hRz0
            obtain ⟨y, hy, ya⟩ := r.get hx
            refine hideP fun Rz0 hRz0 => ?_
            obtain ⟨s, t, l, m, ez26⟩ := formL i y hy
            subst hRz0
            subst ez26
            refine hideP fun Rz0 hRz0 => ?_
            obtain ⟨a1, us, ez27, g1, _, ru⟩ := (ya.same (S2.trans s3)).tupE
            subst hRz0
            subst ez27
            refine hideP fun Rz0 hRz0 => ?_
            obtain ⟨_, _, _, u4, ez28, q1, q2, q3, q4⟩ := ru.four
            subst hRz0
            subst ez28
            cases q1
            cases q2
            cases q3
            have l4 := pa.length
            rw [List.length_take, List.length_map] at l4
            refine ⟨a1, _, rfl, SqT.of g1, by show ¬ ((0 : Nat) = 0 ∧ (2 : Nat) = 4); decide, fun p hp => ?_⟩
            have nD : D2 ≠ p := fun z => by subst z; rw [G.at'] at hp; cases hp
            refine ⟨as.map V.ref, by rw [upd_ne nD]; exact G.at', by rw [List.length_map]; omega, nx hi ⟨as ++ [p], ?_, ?_, ?_⟩⟩
            · rw [List.map_append]; exact ⟨upd_same, Same.refl _⟩
            · intro b' o' e'
              rw [upd_ne (ne_of_none e' hD2)]
              exact ((Same.refl H3).upd hp) _ _ (s3 _ _ e')
            · rw [List.take_add_one, List.getElem?_map, hy]
              refine paired_app (paired_mono (fun a k (z : H3 a = some (.tup ((kP k).map kV))) => ?_) pa) (.cons ?_ .nil)
              · have na : a ≠ D2 := fun y => by subst y; rw [G.at'] at z; cases z
                rw [upd_ne na, upd_ne (ne_of_none z hp)]; exact z
              · rw [upd_ne (Ne.symm nD), upd_same]; rfl
      · refine hideP fun Rz0 hRz0 => ?_
        obtain ⟨o1, o2, o3, kvs, e', eO, kl, ow, s2⟩ := hz9
        subst hRz0
        subst e'
        obtain ⟨h, hh', ha⟩ := paired_getL ph hx
        have gh1 := gh.all h (List.mem_of_getElem? hh')
        refine ⟨x, h, rfl, ha.ts (s1.trans s2).tups, gh1, fun l zs H3 hl el s3 pz => ?_⟩
        have nlO : l ≠ O := fun z => by subst z; rw [eO] at hl; cases hl
        have nd : (pairsOf (hs.take i) ++ pairsH h).map Prod.fst |>.Nodup := by
          have z := gh.rows
          rw [← pairsOf_fst] at z
          have z2 : pairsOf (hs.take (i + 1)) = pairsOf (hs.take i) ++ pairsH h := by
            unfold pairsOf
            rw [List.take_add_one, hh', List.flatMap_append]
            simp
          rw [← z2]
          have z3 : (pairsOf hs) = pairsOf (hs.take (i + 1)) ++ pairsOf (hs.drop (i + 1)) := by
            unfold pairsOf
            rw [← List.flatMap_append, List.take_append_drop]
          rw [z3, List.map_append] at z
          exact (List.nodup_append.mp z).1
        refine ⟨l, rfl, ⟨_, SqL.of el⟩, WS zs.length (PvK x O l hs h i zs H1 H3), ws0 ⟨o2, o3, kvs, rfl, s3 _ _ eO, by simpa using kl, by simpa using ow, s2.trans s3, el, Tups.refl _⟩, ct_list (xs := zs) _ (fun j σ H'' _ hz13 => by obtain ⟨_, _, _, _, _, _, _, _, e', _⟩ := hz13; exact SqL.of e') (fun σ H'' ⟨o2', o3', kvs', e', eO', kl', ow', s', _, _⟩ => nxs hi ⟨_, _, _, kvs', e', eO', ?_, ?_, s'⟩) (fun j y σ H'' hy hj hz15 => ?_)⟩
        · have z2 : pairsOf (hs.take (i + 1)) = pairsOf (hs.take i) ++ pairsH h := by
            unfold pairsOf
            rw [List.take_add_one, hh', List.flatMap_append]
            simp
          rw [show (pairsH h).take zs.length = pairsH h from List.take_of_length_le (by rw [pz.length]; unfold pairsH; rw [List.length_map]; exact Nat.le_refl _)] at kl'
          rw [z2]; exact kl'
        · have z2 : pairsOf (hs.take (i + 1)) = pairsOf (hs.take i) ++ pairsH h := by
            unfold pairsOf
            rw [List.take_add_one, hh', List.flatMap_append]
            simp
          rw [show (pairsH h).take zs.length = pairsH h from List.take_of_length_le (by rw [pz.length]; unfold pairsH; rw [List.length_map]; exact Nat.le_refl _)] at ow'
          rw [z2]; exact ow'
        · refine hideP fun Rz0 hRz0 => ?_
          obtain ⟨o2', o3', kvs', e', eO', kl', ow', s', el', t'⟩ := hz15
          subst hRz0
          subst e'
          obtain ⟨rr, hrr, ra⟩ := paired_getL pz hy
          obtain ⟨ra1, rfl, ra2⟩ := ra.ts t'
          have hp : (pairsH h)[j]? = some (rr.1, h.name) := by unfold pairsH; rw [List.getElem?_map, hrr]; rfl
          refine hideP fun Rz0 hRz0 => ?_
          obtain ⟨xa, xb, ez29, xg, _⟩ := ha.ts (s1.trans s').tups
          subst hRz0
          subst ez29
          refine ⟨ra1, _, rfl, SqT.of ra2, rfl, _, _, rfl, _, _, rfl, rfl, ?_⟩
          refine ixTup (SqT.of xg) (i := 0) (v := .str h.name) (by rfl) ?_
          have ap : pairsOf (hs.take i) ++ (pairsH h).take (j + 1) = (pairsOf (hs.take i) ++ (pairsH h).take j) ++ [(rr.1, h.name)] := by
            rw [List.take_add_one, hp, List.append_assoc]; rfl
          have big : (pairsOf (hs.take i) ++ (pairsH h).take j).length ≤ 24 := by
            have z := gh.few
            rw [← pairsOf_fst, List.length_map] at z
            have z2 : (pairsOf hs) = pairsOf (hs.take i) ++ (pairsH h ++ pairsOf (hs.drop (i + 1))) := by
              unfold pairsOf
              have e1 : hs = hs.take i ++ (h :: hs.drop (i + 1)) := by
                obtain ⟨li, fi⟩ := List.getElem?_eq_some_iff.mp hh'
                rw [← fi, List.getElem_cons_drop, List.take_append_drop]
              conv => lhs; rw [e1]
              rw [List.flatMap_append, List.flatMap_cons]
            rw [z2, List.length_append, List.length_append] at z
            rw [List.length_append, List.length_take]
            omega
          refine ⟨kvs', Sum.inr rr.1, eO', rfl, by omega, nxs hj ⟨_, _, _, rfl, upd_same, ?_, ?_, ?_, ?_, t'.put eO' (fun _ z => nomatch z)⟩⟩
          · have z := length_putK kvs' (Sum.inr rr.1) (V.str h.name)
            rw [ap, List.length_append]
            exact Nat.le_trans z (Nat.add_le_add_right kl' 1)
          · rw [ap]
            refine Owns.put (p := (rr.1, h.name)) ow' fun p hp' z => ?_
            have nd2 : ((pairsOf (hs.take i) ++ (pairsH h).take j) ++ [(rr.1, h.name)]).map Prod.fst |>.Nodup := by
              rw [← ap]
              refine List.Sublist.nodup ?_ nd
              exact (List.Sublist.append (List.Sublist.refl _) (List.take_sublist _ _)).map _
            rw [List.map_append] at nd2
            exact (List.nodup_append.mp nd2).2.2 p.1 (List.mem_map_of_mem hp') rr.1 (by simp) z
          · intro b' o' e'
            rw [upd_ne (ne_of_none e' hO)]; exact s' _ _ e'
          · rw [upd_ne nlO]; exact el'
    | _ => exact q H (Same.refl H)
end
end K02
namespace K02
open PySem L2
open Builtin.Int in
theorem oMulB {X : Cx} : OpR X (binaryOp .Mult) (fIc IntMulOk fun i j => .int (i * j)) := (opI fun _ _ _ _ _ _ _ hc q => PyProof.Rows.mul_int q hc : OpR X (binaryOp .Mult) (rI IntMulOk fun i j => .int (i * j))).fIc
noncomputable def Bits (n : Int) : Prop := Builtin.Int.intBits n ≤ 1048576
noncomputable def spMixed : Sp := fun vs H Q _ => ∃ c : Int, vs = [.int c] ∧ Builtin.Int.intBits c ≤ 2000000 ∧ ∀ n : Int, 0 ≤ n → Q (.int n) H
noncomputable def PackAt (H : Hp) (p : Addr) : Prop := ∃ n : Int, H p = some (.lst [.int n]) ∧ 0 ≤ n
noncomputable def spPack (K : PySem.W.Frag) : Sp := fun vs H Q _ => ∃ (a : Addr) (ns : List Int) (k : Int), vs = [.ref a, .int k] ∧ SqL K H a (ns.map V.int) ∧ (∀ n ∈ ns, Bits n) ∧ ns.length ≤ 63 ∧ 0 ≤ k ∧ k ≤ 1000 ∧ ∀ (p : Addr) (H' : Hp), H p = none → PackAt H' p → Same H H' → Q (.ref p) H'
noncomputable def spTake : Sp := fun vs H Q _ => ∃ (p : Addr) (m : Int), vs = [.ref p, .int m] ∧ PackAt H p ∧ 0 < m ∧ m < 1073741824 ∧ ∀ (d : Int) (H' : Hp), 0 ≤ d → d < m → PackAt H' p → SameB p H H' → Q (.int d) H'
section
variable {P : Program} {w : World} {K : PySem.W.Frag} {mg : Str → Option Value} {base : Heap} {t8 t6 tR tL : Tok}
theorem sc_mixed : FnScope ["_law_cell"] ["_law_cell"] (defScope sMixed) := ⟨rfl, rfl, rfl, by decide +kernel, rfl, by decide +kernel, by decide +kernel⟩
theorem ok_mixed {f : Addr} {fd : FuncData} (F : Fun K "_law_mixed" "_law_mixed" sMixed f fd) : FnOk P w K mg base CX0 1 f fd ["_law_cell"] spMixed := by
  refine F.ok sc_mixed (fun vs H Q E h => ?_) (fun cdv A outer s H vs Q E hr h => ?_)
  · obtain ⟨c, rfl, _⟩ := h
    rfl
  · obtain ⟨c, rfl, hb, q⟩ := h
    refine ⟨_, (pss_one (ps_ret (pe_op oMod (pe_op oMulB (pV 0) pe_int) (pe_op oPow pe_int pe_int)))), ?_⟩
    refine ⟨IntMulOk.of_le (m := 2000000) (n := 400) hb (by decide +kernel) (by decide), ?_⟩
    refine ⟨⟨by decide, by decide, by decide⟩, by show (0 : Int) < 10 ^ Int.toNat 60; decide +kernel, ?_⟩
    exact q _ (Int.emod_nonneg _ (by decide +kernel))
theorem sc_pack : FnScope ["_law_script", "_law_k"] ["_law_script", "_law_k"] (defScope sPack) := ⟨rfl, rfl, rfl, by decide +kernel, rfl, by decide +kernel, by decide +kernel⟩
theorem ok_pack {f f_mixed : Addr} {fd fd_mixed : FuncData} (F : Fun K "_law_pack" "_law_pack" sPack f fd) (T : Txt mg t8 t6 tR tL)
    (G_mixed : FnOk P w K mg base CX0 1 f_mixed fd_mixed ["_law_cell"] spMixed) (m_mixed : mg "_law_mixed" = some (.ref f_mixed)) (k_mixed : PySem.W.keepIn K (.ref f_mixed) = true) (b_mixed : Binds K fd_mixed ["_law_cell"] []) : FnOk P w K mg base CX0 2 f fd ["_law_script", "_law_k"] (spPack K) := by
  refine F.ok sc_pack (fun vs H Q E h => ?_) (fun cdv A outer s H vs Q E hr h => ?_)
  · obtain ⟨a, ns, k, rfl, _⟩ := h
    rfl
  · obtain ⟨a, ns, k, rfl, ha, hb, hl, k0, k1, q⟩ := h
    have small : ∀ z : Int, 0 ≤ z → z ≤ 10000000 → Builtin.Int.intBits z ≤ 1048576 := fun z z0 z1 => Nat.le_trans (intBits_le_64 (by omega) (by omega)) (by decide)
    have fin : ∀ n : Int, 0 ≤ n → tLst (tCons (tC (.int n)) tNil) ([] : St) H Q := fun n n0 => ⟨by show 1 ≤ sizeLine; rw [sizeLine_eq]; decide, fun p hp => q p _ hp ⟨n, upd_same, n0⟩ ((Same.refl H).upd hp)⟩
    refine ⟨_, (pss_cons (ps_if (ptC oLt (pV 1) (pe_callB call_len_seq rfl T.len PySem.boot_len (pa_cons (pV 0) pa_nil)) (nomark _)) (pss_one (ps_ret (pe_lst (pa_cons (pe_call G_mixed hr rfl m_mixed k_mixed b_mixed .nil pass0 (pa_cons (pe_op oAdd (pe_ix iIx (pV 0) (pV 1) (fun _ _ => rfl)) (pe_op oMul pe_int (pV 1))) pa_nil)) pa_nil)))) pss_nil) (pss_one (ps_ret (pe_lst (pa_cons (pe_call G_mixed hr rfl m_mixed k_mixed b_mixed .nil pass0 (pa_cons (pe_op oAdd (pe_op oMul pe_int (pV 1)) pe_int) pa_nil)) pa_nil))))), ?_⟩
    refine ⟨a, _, rfl, .inl ha, ?_⟩
    refine ite2 (fun z => ?_) (fun z => ?_)
    · have lt : k < ((ns.map V.int).length : Int) := of_decide_eq_true z
      obtain ⟨j, rfl⟩ := Int.eq_ofNat_of_zero_le k0
      rw [List.length_map] at lt
      have hj : ns[j]? = some ns[j] := List.getElem?_eq_getElem (by omega)
      refine ixAtS ha (v := .int ns[j]) (atI_nat (by rw [List.getElem?_map, hj]; rfl)) ?_
      refine ⟨.inl ⟨by decide, by decide⟩, ?_⟩
      have b1 := intBits_add_le (hb ns[j] (List.mem_of_getElem? hj)) (small (23 * (j : Int)) (by omega) (by omega))
      refine ⟨_, rfl, Nat.le_trans b1 (by decide), fun n n0 => ?_⟩
      exact fin n n0
    · refine ⟨.inl ⟨by decide, by decide⟩, ?_⟩
      refine ⟨_, rfl, Nat.le_trans (small (5099 * k + 7) (by omega) (by omega)) (by decide), fun n n0 => ?_⟩
      exact fin n n0
theorem sc_take : FnScope ["_law_pack_here", "_law_size", "_law_digit"] ["_law_pack_here", "_law_size"] (defScope sTake) := ⟨rfl, rfl, rfl, by decide +kernel, rfl, by decide +kernel, by decide +kernel⟩
theorem ok_take {f : Addr} {fd : FuncData} (F : Fun K "_law_take" "_law_take" sTake f fd) (T : Txt mg t8 t6 tR tL) : FnOk P w K mg base CX0 1 f fd ["_law_pack_here", "_law_size"] spTake := by
  refine F.ok sc_take (fun vs H Q E h => ?_) (fun cdv A outer s H vs Q E hr h => ?_)
  · obtain ⟨p, m, rfl, _⟩ := h
    rfl
  · obtain ⟨p, m, rfl, ⟨n, hp, n0⟩, m0, m1, q⟩ := h
    refine ⟨_, (pss_cons (ps_asg (pe_callB call_divmod rfl T.divmod PyProof.Rows.boot_divmod (pa_cons (pe_ix iIx (pV 0) pe_int (fun _ _ => rfl)) (pa_cons (pV 1) pa_nil))) (pg_tup rfl (pgs_cons (pg_sub (pV 0) pe_int iSet) (pgs_cons (pg_name (i := 2) sc_take.nd rfl (Or.inl rfl)) pgs_nil)))) (pss_one (ps_ret (pV 2)))), ?_⟩
    refine ixAt hp (i := 0) (by rfl) ?_
    refine ⟨n, m, rfl, ⟨m0, m1⟩, fun t ht => ?_⟩
    have ne : p ≠ t := ne_of_none hp ht
    refine ⟨t, _, rfl, SqT.of upd_same, rfl, _, _, rfl, ?_⟩
    refine setAt (j := 0) (show upd H t (.tup [.int (n / m), .int (n % m)]) p = some (.lst [.int n]) by rw [upd_ne ne]; exact hp) (by rfl) ?_
    refine ⟨_, _, rfl, rfl, ?_⟩
    refine q _ _ (Int.emod_nonneg n (by omega)) (Int.emod_lt_of_pos n m0) ⟨n / m, upd_same, Int.ediv_nonneg n0 (by omega)⟩ ?_
    exact ((SameB.of (Same.refl H)).new ht).upd
end
end K02
namespace K02
open PySem L2
noncomputable def abcL : List Nat := (List.range 26).map (97 + ·)
noncomputable def rot (t : Nat) : List Nat := abcL.drop t ++ abcL.take t
noncomputable def nameL (t sz pick k : Nat) : List Nat :=
  if pick = 0 then List.replicate (1 + k % 8) ((rot t).getD (k / 8) 0) else if pick = 1 then (rot t).getD (k % 26) 0 :: ((rot t).drop 4).take sz else ((rot t).drop 4).take sz ++ [(rot t).getD (k % 26) 0]
noncomputable def okNames (l : List (List Nat)) : Bool := decide l.Nodup && l.all fun s => decide (1 ≤ s.length) && decide (s.length ≤ 8) && s.all low
noncomputable def qL : List Nat := [113, 113, 113, 113, 113, 113, 113, 114]
noncomputable def qS : Str := ⟨qL.toArray⟩
theorem names_checkQ : ((List.range 26).all fun t => (List.range 8).all fun sz => (List.range 3).all fun pick => (List.range 12).all fun k => !decide (nameL t sz pick k = qL)) = true := by decide +kernel
theorem names_check : ((List.range 26).all fun t => (List.range 8).all fun sz => (List.range 3).all fun pick => okNames ((List.range 12).map (nameL t sz pick))) = true := by decide +kernel
noncomputable def nameS (t sz pick k : Nat) : Str := ⟨(nameL t sz pick k).toArray⟩
noncomputable def namesL (t sz pick : Nat) : List Str := (List.range 12).map (nameS t sz pick)
theorem namesL_ok {t sz pick : Nat} (ht : t < 26) (hz : sz < 8) (hp : pick < 3) : (namesL t sz pick).Nodup ∧ ∀ s ∈ namesL t sz pick, Good s := by
  have h := List.all_eq_true.mp (List.all_eq_true.mp (List.all_eq_true.mp names_check t (List.mem_range.mpr ht)) sz (List.mem_range.mpr hz)) pick (List.mem_range.mpr hp)
  unfold okNames at h
  obtain ⟨h1, h2⟩ := Bool.and_eq_true_iff.mp h
  have h1' := of_decide_eq_true h1
  constructor
  · unfold namesL
    rw [List.nodup_iff_pairwise_ne, List.pairwise_map] at h1' ⊢
    refine h1'.imp fun {a b} z e => z ?_
    have := congrArg (fun s : Str => s.cps.toList) e
    simpa [nameS] using this
  · intro s hs
    obtain ⟨k, hk, rfl⟩ := List.mem_map.mp hs
    have h3 := List.all_eq_true.mp h2 (nameL t sz pick k) (List.mem_map.mpr ⟨k, hk, rfl⟩)
    obtain ⟨h4, h5⟩ := Bool.and_eq_true_iff.mp h3
    obtain ⟨h6, h7⟩ := Bool.and_eq_true_iff.mp h4
    refine ⟨?_, ?_, fun c hc => List.all_eq_true.mp h5 c (by simpa [nameS] using hc)⟩
    · have := of_decide_eq_true h6; simpa [nameS, Str.length] using this
    · have := of_decide_eq_true h7; simpa [nameS, Str.length] using this
theorem namesL_q {t sz pick : Nat} (ht : t < 26) (hz : sz < 8) (hp : pick < 3) : ∀ s ∈ namesL t sz pick, s ≠ qS := by
  intro s hs e
  obtain ⟨k, hk, rfl⟩ := List.mem_map.mp hs
  have h := List.all_eq_true.mp (List.all_eq_true.mp (List.all_eq_true.mp (List.all_eq_true.mp names_checkQ t (List.mem_range.mpr ht)) sz (List.mem_range.mpr hz)) pick (List.mem_range.mpr hp)) k hk
  have := congrArg (fun s : Str => s.cps.toList) e
  have e2 : nameL t sz pick k = qL := by simpa [nameS, qS] using this
  rw [e2] at h
  exact absurd h (by decide)
noncomputable def abc : Str := "abcdefghijklmnopqrstuvwxyz"
theorem abc_eq : abc.cps.toList = abcL := by decide +kernel
theorem rot_len {t : Nat} (h : t ≤ 26) : (rot t).length = 26 := by
  unfold rot
  rw [List.length_append, List.length_drop, List.length_take, show abcL.length = 26 by decide]
  omega
theorem abc_len : abc.length = 26 := by decide +kernel
theorem rot_text {t : Nat} (ht : t ≤ 26) : (PySem.Txt.slice abc (some (t : Int)) none ++ PySem.Txt.slice abc none (some (t : Int))).cps.toList = rot t := by
  rw [app_list, slice_to, slice_eq]
  unfold cutS rot
  rw [HT.sIx_nat, HT.sIx_none, abc_len, abc_eq, Nat.min_eq_left ht, List.take_of_length_le (by rw [List.length_drop, show abcL.length = 26 by decide]; omega)]
theorem atI_getD {l : List Nat} {k : Int} (h0 : 0 ≤ k) (h1 : k < l.length) : atI l k = some (l.getD k.toNat 0) := by
  obtain ⟨n, rfl⟩ := Int.eq_ofNat_of_zero_le h0
  refine atI_nat ?_
  have hn : n < l.length := by omega
  rw [List.getElem?_eq_getElem hn]
  simp [List.getD, hn]
noncomputable def spNames : Sp := fun vs H Q _ => ∃ (p : Addr), vs = [.ref p, .int 12] ∧ PackAt H p ∧ ∀ (l : Addr) (ss : List Str) (H' : Hp), H l = none → H' l = some (.lst (ss.map V.str)) → ss.length = 12 → ss.Nodup → (∀ s ∈ ss, Good s) → (∀ s ∈ ss, s ≠ qS) → PackAt H' p → SameB p H H' → Q (.ref l) H'
section
variable {P : Program} {w : World} {K : PySem.W.Frag} {mg : Str → Option Value} {base : Heap} {t8 t6 tR tL : Tok}
theorem sc_names : FnScope ["_law_pack_here", "_law_amount", "_law_letters_here", "_law_turn", "_law_pick", "_law_size"] ["_law_pack_here", "_law_amount"] (defScope sNames) := ⟨rfl, rfl, rfl, by decide +kernel, rfl, by decide +kernel, by decide +kernel⟩
theorem ok_names {f f_take : Addr} {fd fd_take : FuncData} (F : Fun K "_law_names" "_law_names" sNames f fd) (T : Txt mg t8 t6 tR tL)
    (G_take : FnOk P w K mg base CX0 1 f_take fd_take ["_law_pack_here", "_law_size"] spTake) (m_take : mg "_law_take" = some (.ref f_take)) (k_take : PySem.W.keepIn K (.ref f_take) = true) (b_take : Binds K fd_take ["_law_pack_here", "_law_size"] []) : FnOk P w K mg base CX0 2 f fd ["_law_pack_here", "_law_amount"] spNames := by
  refine F.ok sc_names (fun vs H Q E h => ?_) (fun cdv A outer s H vs Q E hr h => ?_)
  · obtain ⟨p, rfl, _⟩ := h
    rfl
  · obtain ⟨p, rfl, hp, q⟩ := h
    have sl0 : sizeLine = 16777216 := sizeLine_eq
    refine ⟨_, (pss_cons (ps_set (i := 2) sc_names.nd rfl (Or.inr rfl) pe_str) (pss_cons (ps_set (i := 3) sc_names.nd rfl (Or.inl rfl) (pe_call G_take hr rfl m_take k_take b_take .nil pass0 (pa_cons (pV 0) (pa_cons pe_int pa_nil)))) (pss_cons (ps_set (i := 2) sc_names.nd rfl (Or.inr rfl) (pe_op oCat (pe_slice iSlS (pV 2) (poI (pV 3)) po_none) (pe_slice iSlS (pV 2) po_none (poI (pV 3))))) (pss_cons (ps_set (i := 4) sc_names.nd rfl (Or.inl rfl) (pe_call G_take hr rfl m_take k_take b_take .nil pass0 (pa_cons (pV 0) (pa_cons pe_int pa_nil)))) (pss_cons (ps_set (i := 5) sc_names.nd rfl (Or.inr rfl) (pe_call G_take hr rfl m_take k_take b_take .nil pass0 (pa_cons (pV 0) (pa_cons pe_int pa_nil)))) (pss_cons (ps_if (ptC oEq (pV 4) pe_int (nomark _)) (pss_one (ps_ret (pe_comp (scX := defScope sNames) (own := ["_law_k"]) (cap := ["_law_letters_here"]) (ix := [2]) rfl rfl ⟨rfl, by decide +kernel, by decide +kernel, by decide +kernel, rfl, by decide +kernel⟩ (pi_range1 rfl T.range (pa_cons (pV 1) pa_nil)) (fun b => (pg_name (i := 0) (show (["_law_k", "_law_letters_here"] : List Str).Nodup by decide +kernel) rfl (Or.inl rfl))) (fun b => pif_nil) (fun b => (pe_op op_mulS (pe_ix iIxS (pV 1) (pe_op oDiv (pV 0) pe_int) (fun _ _ => rfl)) (pe_op oAdd pe_int (pe_op oMod (pV 0) pe_int))))))) pss_nil) (pss_cons (ps_if (ptC oEq (pV 4) pe_int (nomark _)) (pss_one (ps_ret (pe_comp (scX := defScope sNames) (own := ["_law_k"]) (cap := ["_law_letters_here", "_law_size"]) (ix := [2, 5]) rfl rfl ⟨rfl, by decide +kernel, by decide +kernel, by decide +kernel, rfl, by decide +kernel⟩ (pi_range1 rfl T.range (pa_cons (pV 1) pa_nil)) (fun b => (pg_name (i := 0) (show (["_law_k", "_law_letters_here", "_law_size"] : List Str).Nodup by decide +kernel) rfl (Or.inl rfl))) (fun b => pif_nil) (fun b => (pe_op oCat (pe_ix iIxS (pV 1) (pe_op oMod (pV 0) pe_int) (fun _ _ => rfl)) (pe_slice iSlS (pV 1) (poI pe_int) (poI (pe_op oAdd pe_int (pV 2))))))))) pss_nil) (pss_one (ps_ret (pe_comp (scX := defScope sNames) (own := ["_law_k"]) (cap := ["_law_letters_here", "_law_size"]) (ix := [2, 5]) rfl rfl ⟨rfl, by decide +kernel, by decide +kernel, by decide +kernel, rfl, by decide +kernel⟩ (pi_range1 rfl T.range (pa_cons (pV 1) pa_nil)) (fun b => (pg_name (i := 0) (show (["_law_k", "_law_letters_here", "_law_size"] : List Str).Nodup by decide +kernel) rfl (Or.inl rfl))) (fun b => pif_nil) (fun b => (pe_op oCat (pe_slice iSlS (pV 1) (poI pe_int) (poI (pe_op oAdd pe_int (pV 2)))) (pe_ix iIxS (pV 1) (pe_op oMod (pV 0) pe_int) (fun _ _ => rfl)))))))))))))), ?_⟩
    refine ⟨p, 26, rfl, hp, by decide, by decide, fun t H1 t0 t1 hp1 s1 => ?_⟩
    obtain ⟨t, rfl⟩ := Int.eq_ofNat_of_zero_le t0
    have ht : t < 26 := by omega
    have la : abc.length ≤ sizeLine := by rw [abc_len]; omega
    refine slStr (z := abc) la ?_
    refine slStr (z := abc) la ?_
    have rt := rot_text (t := t) (by omega)
    refine ⟨by
      have z1 := PySem.Txt.slice_le abc (some (t : Int)) none
      have z2 := PySem.Txt.slice_le abc none (some (t : Int))
      rw [abc_len] at z1 z2
      omega, ?_⟩
    generalize PySem.Txt.slice abc (some (t : Int)) none ++ PySem.Txt.slice abc none (some (t : Int)) = R at rt
    have lR : R.length = 26 := by rw [← len_list, rt]; exact rot_len (by omega)
    refine ⟨p, 3, rfl, hp1, by decide, by decide, fun pk H2 p0 p1 hp2 s2 => ?_⟩
    obtain ⟨pick, rfl⟩ := Int.eq_ofNat_of_zero_le p0
    refine ⟨p, 8, rfl, hp2, by decide, by decide, fun sz H3 z0 z1 hp3 s3 => ?_⟩
    obtain ⟨size, rfl⟩ := Int.eq_ofNat_of_zero_le z0
    have s13 : SameB p H H3 := (s1.trans s2).trans s3
    obtain ⟨ok1, ok2⟩ := namesL_ok (t := t) (sz := size) (pick := pick) ht (by omega) (by omega)
    have ok3 := namesL_q (t := t) (sz := size) (pick := pick) ht (by omega) (by omega)
    have fin : ∀ (D : Addr) (H' : Hp), H3 D = none → Grow H3 H' D ((namesL t size pick).map V.str) → Q (.ref D) H' := fun D H' hD G => by
      refine q D (namesL t size pick) H' ?_ G.at' (by unfold namesL; rw [List.length_map, List.length_range]) ok1 ok2 ok3 (by obtain ⟨n, e, n0⟩ := hp3; exact ⟨n, G.same _ _ e, n0⟩) (s13.trans (SameB.of G.same))
      cases e : H D with
      | none => rfl
      | some o =>
        have nD : D ≠ p := fun z => by
          obtain ⟨n, e', _⟩ := hp3
          rw [← z, hD] at e'; cases e'
        have := s13 D o nD e
        rw [hD] at this; cases this
    have step : ∀ (i : Nat), i < 12 → (namesL t size pick).take (i + 1) = (namesL t size pick).take i ++ [nameS t size pick i] := fun i hi => by
      have e : (namesL t size pick)[i]? = some (nameS t size pick i) := by unfold namesL; rw [List.getElem?_map, List.getElem?_range hi]; rfl
      rw [List.take_add_one, e]; rfl
    have lenN : (namesL t size pick).length = 12 := by unfold namesL; rw [List.length_map, List.length_range]
    have put : ∀ (i : Nat) (D : Addr) (H' : Hp) (z : Str), i < 12 → H3 D = none → Grow H3 H' D (((namesL t size pick).take i).map V.str) → z.cps.toList = nameL t size pick i → ∃ zs, H' D = some (.lst zs) ∧ zs.length < sizeLine ∧ Nx 12 i (fun i H' => Grow H3 H' D (((namesL t size pick).take i).map V.str)) (upd H' D (.lst (zs ++ [.str z]))) := fun i D H' z hi hD G ez => by
      refine ⟨_, G.at', by rw [List.length_map, List.length_take]; omega, nx hi ?_⟩
      show Grow H3 _ D (((namesL t size pick).take (i + 1)).map V.str)
      have ez' : z = nameS t size pick i := by
        cases z with
        | mk c => unfold nameS; congr 1; rw [← ez]
      rw [step i hi, List.map_append, ez']
      exact G.put hD _
    have all : ((namesL t size pick).take 12).map V.str = (namesL t size pick).map V.str := by rw [List.take_of_length_le (by omega)]
    have cutR : (PySem.Txt.slice R (some 4) (some (4 + (size : Int)))).cps.toList = ((rot t).drop 4).take size := by
      have e : PySem.Txt.slice R (some ((4 : Nat) : Int)) (some ((4 + size : Nat) : Int)) = _ := slice_mid R 4 (4 + size)
      have e2 : PySem.Txt.slice R (some 4) (some (4 + (size : Int))) = ⟨((R.cps.toList.take (4 + size)).drop 4).toArray⟩ := e
      rw [e2, rt, List.drop_take]
      simp
    have cutL : (PySem.Txt.slice R (some 4) (some (4 + (size : Int)))).length ≤ 26 := by rw [← lR]; exact PySem.Txt.slice_le R _ _
    refine ite2 (fun c1 => ?_) (fun c1 => ?_)
    · have pk0 : pick = 0 := by have := of_decide_eq_true c1; omega
      refine ⟨12, rfl, by decide, by decide, fun D hD => comp_range (lo := 0) (n := 12) (fun i H' => Grow H3 H' D (((namesL t size pick).take i).map V.str)) (Grow.start hD) (fun H' G => fin D H' hD (by rw [← all]; exact G)) (fun i H' hi G b => ?_)⟩
      refine ⟨⟨by decide, by decide⟩, ?_⟩
      refine ixStr (z := R) (by omega) (by rw [rt]; exact atI_getD (by omega) (by rw [rot_len (by omega)]; omega)) ?_
      refine ⟨by show (0 : Int) < 8; decide, ?_⟩
      refine ⟨_, _, rfl, rfl, by omega, by omega, ?_⟩
      refine put i D H' _ hi hD G ?_
      subst pk0
      unfold nameL
      rw [if_pos rfl]
      show List.replicate _ _ = _
      congr 1
      · omega
      · congr 1; omega
    · refine ite2 (fun c2 => ?_) (fun c2 => ?_)
      · have pk1 : pick = 1 := by have := of_decide_eq_true c2; omega
        refine ⟨12, rfl, by decide, by decide, fun D hD => comp_range (lo := 0) (n := 12) (fun i H' => Grow H3 H' D (((namesL t size pick).take i).map V.str)) (Grow.start hD) (fun H' G => fin D H' hD (by rw [← all]; exact G)) (fun i H' hi G b => ?_)⟩
        refine ⟨by show (0 : Int) < 26; decide, ?_⟩
        refine ixStr (z := R) (by omega) (by rw [rt]; exact atI_getD (by omega) (by rw [rot_len (by omega)]; omega)) ?_
        refine slStr (z := R) (by omega) ?_
        refine ⟨by show 1 + _ ≤ sizeLine; omega, ?_⟩
        refine put i D H' _ hi hD G ?_
        subst pk1
        rw [app_list, cutR]
        unfold nameL
        rw [if_neg (by decide), if_pos rfl]
        have ei : ((0 + (i : Int)) % 26).toNat = i % 26 := by omega
        show (rot t).getD ((0 + (i : Int)) % 26).toNat 0 :: _ = _
        rw [ei]
        rfl
      · have pk2 : pick ≠ 0 ∧ pick ≠ 1 := ⟨fun e => c1 (decide_eq_true (by rw [e]; rfl)), fun e => c2 (decide_eq_true (by rw [e]; rfl))⟩
        refine ⟨12, rfl, by decide, by decide, fun D hD => comp_range (lo := 0) (n := 12) (fun i H' => Grow H3 H' D (((namesL t size pick).take i).map V.str)) (Grow.start hD) (fun H' G => fin D H' hD (by rw [← all]; exact G)) (fun i H' hi G b => ?_)⟩
        refine slStr (z := R) (by omega) ?_
        refine ⟨by show (0 : Int) < 26; decide, ?_⟩
        refine ixStr (z := R) (by omega) (by rw [rt]; exact atI_getD (by omega) (by rw [rot_len (by omega)]; omega)) ?_
        refine ⟨by show _ + 1 ≤ sizeLine; omega, ?_⟩
        refine put i D H' _ hi hD G ?_
        rw [app_list, cutR]
        unfold nameL
        rw [if_neg pk2.1, if_neg pk2.2]
        congr 1
        show [_] = [_]
        congr 2; omega
end
end K02
namespace K02
open PySem L2
noncomputable def rowD (r : Row) : PyData := .tuple [.str r.1, .int r.2]
noncomputable def rowsD (rs : List Row) : PyData := .list (rs.map rowD)
theorem Good.ok {z : Str} (g : Good z) : PyData.strOk z = true := by
  unfold PyData.strOk
  rw [Array.all_eq_true_iff_forall_mem]
  intro c hc
  have h := g.all c (by simpa using hc)
  unfold low at h
  have h2 := of_decide_eq_true (Bool.and_eq_true_iff.mp h).2
  exact decide_eq_true (by omega)
theorem rows_shaped : ∀ {rs : List Row}, (∀ r ∈ rs, Good r.1) → SeqAt.shaped (rowsD rs) = true := by
  intro rs h
  have h1 : PyData.canLayAll0 (rs.map rowD) = true := by
    induction rs with
    | nil => rfl
    | cons r rs ih =>
      rw [List.map_cons]
      unfold PyData.canLayAll0
      rw [ih fun q hq => h q (List.mem_cons_of_mem _ hq), Bool.and_true]
      unfold rowD PyData.canLay0 PyData.canLayAll0
      have z := (h r List.mem_cons_self).ok
      simp [PyData.canLay0, PyData.canLayAll0, z]
  have h2 : PyData.depthAll (rs.map rowD) ≤ 1 := by
    clear h h1
    induction rs with
    | nil => exact Nat.zero_le _
    | cons r rs ih =>
      rw [List.map_cons]
      unfold PyData.depthAll
      have e : PyData.depth (rowD r) = 1 := by simp [rowD, PyData.depth, PyData.depthAll]
      rw [e]
      omega
  unfold SeqAt.shaped rowsD
  rw [Bool.and_eq_true]
  refine ⟨?_, ?_⟩
  · unfold PyData.canLay0; exact h1
  · unfold PyData.depth; exact decide_eq_true (by omega)
theorem rows_dp {K : PySem.W.Frag} {H : Hp} {a : Addr} {vs : List V} {rs : List Row} (ha : H a = some (.lst vs)) (p : Paired (RowAt H) vs rs) : Dp K H (.ref a) (rowsD rs) := by
  refine .lst (SqL.of ha) ?_
  clear ha
  induction p with
  | nil => exact .nil
  | cons h _ ih =>
    obtain ⟨b, rfl, hb⟩ := h
    exact .cons (.tup (SqT.of hb) (.cons (.str _) (.cons (.int _) .nil))) ih
theorem rows_eqv (rs : List Row) : PyData.eqv (rowsD rs) (.list []) = rs.isEmpty := by
  cases rs with
  | nil => simp [rowsD, PyData.eqv, PyData.eqvAll]
  | cons r rs => simp [rowsD, PyData.eqv, PyData.eqvAll]
structure NeNil (K : PySem.W.Frag) (x y : V) (H : Hp) (Q : VK) : Prop where
  h : rNeD K x y H Q
theorem oNeNil {X : Cx} (hu : X.A.units + 64 < cLine) : OpR X (compareOp .NotEq) (NeNil X.K) := fun pins s σ H x y v u Q I rx ry h => op_neD hu pins s σ H x y v u Q I rx ry h.h
theorem neNil {K : PySem.W.Frag} {H : Hp} {a l : Addr} {vs : List V} {rs : List Row} {Q : VK} (ha : H a = some (.lst vs)) (p : Paired (RowAt H) vs rs) (g : ∀ r ∈ rs, Good r.1) (hl : H l = some (.lst [])) (q : Q (.bl (!rs.isEmpty)) H) : NeNil K (.ref a) (.ref l) H Q :=
  ⟨rowsD rs, .list [], rows_dp ha p, .lst (SqL.of hl) .nil, rows_shaped g, rfl, by rw [rows_eqv]; exact q⟩
theorem atI_last {α : Type} {xs : List α} {x : α} : atI (xs ++ [x]) (-1) = some x := by
  unfold atI ixN
  have e : (xs ++ [x]).length = xs.length + 1 := by simp
  rw [e, if_neg (by decide), if_pos (by omega)]
  have e2 : ((-1 : Int) + ((xs.length + 1 : Nat) : Int)).toNat = xs.length := by omega
  rw [e2]
  simp
structure HS (H0 : Hp) (p R D : Addr) (ss : List Str) (room : Int) (H : Hp) (vr : List V) (kvs : List (Key × V)) (runs : List (List Row)) (m : Nat) : Prop where
  pack : PackAt H p
  same : SameB p H0 H
  hR : H R = some (.lst vr)
  pR : Paired (RunAt H) vr runs
  hD : H D = some (.dK kvs)
  keys : kvs.map (·.1) = (ss.take m).map Sum.inr
  vals : ∀ n ∈ ss.take m, ∃ i : Int, valV kvs (.inr n) = some (.int i)
  le : m ≤ ss.length
  rm : (m : Int) ≤ room ∨ m = 0
  good : ∀ r ∈ runs, GoodRun r
theorem SameB.tups {p : Addr} {H H' : Hp} (hp : PackAt H p) (s : SameB p H H') : Tups H H' := fun b xs e => s b _ (fun z => by obtain ⟨n, e', _⟩ := hp; rw [z, e'] at e; cases e) e
section
variable {H0 H H' : Hp} {p R D : Addr} {ss : List Str} {room : Int} {vr : List V} {kvs : List (Key × V)} {runs : List (List Row)} {m : Nat}
theorem HS.step (h : HS H0 p R D ss room H vr kvs runs m) (nR : R ≠ p) (nD : D ≠ p) (pk : PackAt H' p) (s : SameB p H H') : HS H0 p R D ss room H' vr kvs runs m :=
  ⟨pk, h.same.trans s, s _ _ nR h.hR, paired_mono (fun _ _ z => z.ts (SameB.tups h.pack s)) h.pR, s _ _ nD h.hD, h.keys, h.vals, h.le, h.rm, h.good⟩
theorem PackAt.new {q : Addr} {o : HO} (h : PackAt H p) (hq : H q = none) : PackAt (upd H q o) p := by
  obtain ⟨n, e, n0⟩ := h
  exact ⟨n, by rw [upd_ne (ne_of_none e hq)]; exact e, n0⟩
theorem PackAt.put {q : Addr} {o : HO} (h : PackAt H p) (hq : q ≠ p) : PackAt (upd H q o) p := by
  obtain ⟨n, e, n0⟩ := h
  exact ⟨n, by rw [upd_ne (Ne.symm hq)]; exact e, n0⟩
theorem HS.new {q : Addr} {o : HO} (h : HS H0 p R D ss room H vr kvs runs m) (nR : R ≠ p) (nD : D ≠ p) (hq : H q = none) : HS H0 p R D ss room (upd H q o) vr kvs runs m :=
  h.step nR nD (h.pack.new hq) ((SameB.of (Same.refl H)).new hq)
theorem putK_new {kvs : List (Key × V)} {k : Key} {v : V} (h : k ∉ kvs.map (·.1)) : putK kvs k v = kvs ++ [(k, v)] := by
  unfold putK
  rw [if_neg]
  intro z
  obtain ⟨x, hx, e⟩ := List.any_eq_true.mp z
  exact h (List.mem_map.mpr ⟨x, hx, of_decide_eq_true e⟩)
theorem take_get {n : Str} (hm : ss[m]? = some n) : ss.take (m + 1) = ss.take m ++ [n] := by rw [List.take_add_one, hm]; rfl
theorem get_fresh {n : Str} (nd : ss.Nodup) (hm : ss[m]? = some n) : n ∉ ss.take m := fun z => by
  obtain ⟨j, hj, ej⟩ := List.mem_iff_getElem.mp z
  obtain ⟨hl, el⟩ := List.getElem?_eq_some_iff.mp hm
  rw [List.length_take] at hj
  rw [List.getElem_take] at ej
  have := (List.getElem_inj (i := j) (j := m) (h₀ := by omega) (h₁ := hl) nd).mp (ej.trans el.symm)
  omega
theorem HS.put {L tp : Addr} {vl : List V} {rs : List Row} {n : Str} {mo rd : Int} (h : HS H0 p R D ss room H vr kvs runs m) (nR : R ≠ p) (nD : D ≠ p) (nRD : R ≠ D) (nL : L ≠ p) (nLR : L ≠ R) (nLD : L ≠ D) (f0 : H0 D = none) (fL : H0 L = none)
    (nd : ss.Nodup) (hm : ss[m]? = some n) (hr : (m : Int) < room) (hL : H L = some (.lst vl)) (pl : Paired (RowAt H) vl rs) (ht : upd H D (.dK (putK kvs (.inr n) (.int mo))) tp = none) :
    HS H0 p R D ss room (upd (upd (upd H D (.dK (putK kvs (.inr n) (.int mo)))) tp (.tup [.str n, .int rd])) L (.lst (vl ++ [.ref tp]))) vr (putK kvs (.inr n) (.int mo)) runs (m + 1) ∧
    Paired (RowAt (upd (upd (upd H D (.dK (putK kvs (.inr n) (.int mo)))) tp (.tup [.str n, .int rd])) L (.lst (vl ++ [.ref tp])))) (vl ++ [.ref tp]) (rs ++ [(n, rd)]) := by
  have t1 : Tups H (upd H D (.dK (putK kvs (.inr n) (.int mo)))) := (Tups.refl H).put h.hD (fun _ z => nomatch z)
  have t2 : Tups H (upd (upd H D (.dK (putK kvs (.inr n) (.int mo)))) tp (.tup [.str n, .int rd])) := t1.new ht
  have hL1 : upd H D (.dK (putK kvs (.inr n) (.int mo))) L = some (.lst vl) := by rw [upd_ne nLD]; exact hL
  have nLt : L ≠ tp := ne_of_none hL1 ht
  have hL2 : upd (upd H D (.dK (putK kvs (.inr n) (.int mo)))) tp (.tup [.str n, .int rd]) L = some (.lst vl) := by rw [upd_ne nLt]; exact hL1
  have t3 := t2.put (o := .lst (vl ++ [.ref tp])) hL2 (fun _ z => nomatch z)
  have hle : m < ss.length := (List.getElem?_eq_some_iff.mp hm).1
  have nkey : (Sum.inr n : Key) ∉ kvs.map (·.1) := fun z => by
    rw [h.keys] at z
    obtain ⟨y, hy, e⟩ := List.mem_map.mp z
    exact get_fresh nd hm (by rw [← Sum.inr.inj e]; exact hy)
  refine ⟨⟨((h.pack.put nD).new ht).put nL, ?_, ?_, paired_mono (fun _ _ z => z.ts t3) h.pR, ?_, ?_, ?_, hle, .inl (by omega), h.good⟩, ?_⟩
  · intro b o hb e
    have n1 : b ≠ D := ne_of_none e f0
    have n2 : b ≠ L := ne_of_none e fL
    have e1 : upd H D (.dK (putK kvs (.inr n) (.int mo))) b = some o := by rw [upd_ne n1]; exact h.same b o hb e
    rw [upd_ne n2, upd_ne (ne_of_none e1 ht)]
    exact e1
  · have e1 : upd H D (.dK (putK kvs (.inr n) (.int mo))) R = some (.lst vr) := by rw [upd_ne nRD]; exact h.hR
    rw [upd_ne (Ne.symm nLR), upd_ne (ne_of_none e1 ht)]
    exact e1
  · have e1 : upd H D (.dK (putK kvs (.inr n) (.int mo))) D = some (.dK (putK kvs (.inr n) (.int mo))) := upd_same
    rw [upd_ne (Ne.symm nLD), upd_ne (ne_of_none e1 ht)]
    exact e1
  · rw [putK_new nkey, List.map_append, h.keys, take_get hm, List.map_append]; rfl
  · intro x hx
    rw [take_get hm] at hx
    rw [valV_put]
    by_cases e : (Sum.inr x : Key) = Sum.inr n
    · exact ⟨mo, if_pos e⟩
    · rw [if_neg e]
      rcases List.mem_append.mp hx with z | z
      · exact h.vals x z
      · exact absurd (by rw [List.mem_singleton.mp z]) e
  · refine paired_app (paired_mono (fun _ _ z => z.ts t3) pl) (.cons ⟨tp, rfl, ?_⟩ .nil)
    rw [upd_ne (Ne.symm nLt), upd_same]
end
theorem rise_snoc {rs : List Row} {n : Str} {rd : Int} (h : (rs.map Prod.snd).Pairwise (· < ·)) (g : ∀ r ∈ rs, r.2 < rd) : ((rs ++ [(n, rd)]).map Prod.snd).Pairwise (· < ·) := by
  rw [List.map_append, List.pairwise_append]
  refine ⟨h, List.pairwise_singleton _ _, fun a ha b hb => ?_⟩
  obtain ⟨r, hr, rfl⟩ := List.mem_map.mp ha
  have e : b = rd := by simpa using hb
  rw [e]; exact g r hr
theorem menu4 {a b c e d : Int} (h0 : 0 ≤ d) (h4 : d < 4) (ha : 0 ≤ a ∧ a ≤ 300) (hb : 0 ≤ b ∧ b ≤ 300) (hc : 0 ≤ c ∧ c ≤ 300) (he : 0 ≤ e ∧ e ≤ 300) : ∃ w : Int, atI [V.int a, .int b, .int c, .int e] d = some (.int w) ∧ 0 ≤ w ∧ w ≤ 300 := by
  obtain ⟨n, rfl⟩ := Int.eq_ofNat_of_zero_le h0
  match n, h4 with
  | 0, _ => exact ⟨a, rfl, ha⟩
  | 1, _ => exact ⟨b, rfl, hb⟩
  | 2, _ => exact ⟨c, rfl, hc⟩
  | 3, _ => exact ⟨e, rfl, he⟩
  | n + 4, h => exact absurd h (by omega)
noncomputable def spMkHouse : Sp := fun vs H Q _ => ∃ (p : Addr) (nm : Str) (ln : Addr) (ss : List Str) (room : Int), vs = [.ref p, .str nm, .ref ln, .int room] ∧ PackAt H p ∧ Good nm ∧ H ln = some (.lst (ss.map V.str)) ∧ ss.length ≤ 12 ∧ ss.Nodup ∧ (∀ s ∈ ss, Good s) ∧
  ∀ (r d : Addr) (hv : V) (h : House) (kvs : List (Key × V)) (m : Nat) (H' : Hp), H r = none → H d = none → H' r = some (.tup [hv, .ref d]) → HouseAt H' hv h → GoodHouse h → h.name = nm → namesH h = ss.take m → m ≤ ss.length → ((m : Int) ≤ room ∨ m = 0) →
    H' d = some (.dK kvs) → kvs.map (·.1) = (ss.take m).map Sum.inr → (∀ n ∈ ss.take m, ∃ i : Int, valV kvs (.inr n) = some (.int i)) → PackAt H' p → SameB p H H' → Q (.ref r) H'
noncomputable def NvR (p ln R D L : Addr) (nm : Str) (room low wide drift ofv mo : Int) (m : Nat) (x11 x14 : V) (H : Hp) (ss : List Str) (vr vl : List V) (kvs : List (Key × V)) (runs : List (List Row)) (rs : List Row) (F : Int → Prop) : St → Hp → Prop := fun σ' H' => ∃ rd : Int, σ' = [some (.ref p), some (.str nm), some (.ref ln), some (.int room), some (.int low), some (.int wide), some (.int drift), some (.int mo), some (.ref R), some (.ref D), some (.int (m : Int)), some x11, some (.int (low + ofv)), some (.ref L), some x14, some (.int rd)] ∧ HS H p R D ss room H' vr kvs runs m ∧ H' L = some (.lst vl) ∧ Paired (RowAt H') vl rs ∧ F rd
noncomputable def PvA (p ln R D : Addr) (nm : Str) (room low wide drift : Int) (H : Hp) (ss : List Str) : Nat → St → Hp → Prop := fun i σ H' => ∃ (mo : Int) (m : Nat) (vr : List V) (kvs : List (Key × V)) (runs : List (List Row)) (o11 o12 o13 o14 o15 : Option V), σ = [some (.ref p), some (.str nm), some (.ref ln), some (.int room), some (.int low), some (.int wide), some (.int drift), some (.int mo), some (.ref R), some (.ref D), some (.int (m : Int)), o11, o12, o13, o14, o15] ∧ HS H p R D ss room H' vr kvs runs m ∧ runs.flatten.map Prod.fst = ss.take m ∧ runs.length ≤ i
noncomputable def PvB (p ln R D L : Addr) (nm : Str) (room low wide drift ofv : Int) (H : Hp) (ss : List Str) (i : Nat) (vr : List V) (runs : List (List Row)) : Nat → St → Hp → Prop := fun j σ H'' => ∃ (mo : Int) (m : Nat) (kvs : List (Key × V)) (vl : List V) (rs : List Row) (o14 o15 : Option V), σ = [some (.ref p), some (.str nm), some (.ref ln), some (.int room), some (.int low), some (.int wide), some (.int drift), some (.int mo), some (.ref R), some (.ref D), some (.int (m : Int)), some (.int (0 + (i : Int))), some (.int (low + ofv)), some (.ref L), o14, o15] ∧ HS H p R D ss room H'' vr kvs runs m ∧ H'' L = some (.lst vl) ∧ Paired (RowAt H'') vl rs ∧ (runs.flatten ++ rs).map Prod.fst = ss.take m ∧ rs.length ≤ j ∧ (rs.map Prod.snd).Pairwise (· < ·)
section
variable {P : Program} {w : World} {K : PySem.W.Frag} {mg : Str → Option Value} {base : Heap} {t8 t6 tR tL : Tok}
theorem sc_mkhouse : FnScope ["_law_pack_here", "_law_name", "_law_names_here", "_law_room", "_law_low", "_law_wide_here", "_law_drift", "_law_moment", "_law_runs", "_law_hidden", "_law_at", "_law_turn", "_law_off", "_law_rows_here", "_law_step", "_law_reading"] ["_law_pack_here", "_law_name", "_law_names_here", "_law_room"] (defScope sMkHouse) := ⟨rfl, rfl, rfl, by decide +kernel, rfl, by decide +kernel, by decide +kernel⟩
theorem ok_mkhouse {f f_take : Addr} {fd fd_take : FuncData} (F : Fun K "_law_house" "_law_house" sMkHouse f fd) (T : Txt mg t8 t6 tR tL)
    (G_take : FnOk P w K mg base CX0 1 f_take fd_take ["_law_pack_here", "_law_size"] spTake) (m_take : mg "_law_take" = some (.ref f_take)) (k_take : PySem.W.keepIn K (.ref f_take) = true) (b_take : Binds K fd_take ["_law_pack_here", "_law_size"] []) : FnOk P w K mg base CX0 2 f fd ["_law_pack_here", "_law_name", "_law_names_here", "_law_room"] spMkHouse := by
  refine F.ok sc_mkhouse (fun vs H Q E h => ?_) (fun cdv A outer s H vs Q E hr h => ?_)
  · obtain ⟨p, nm, ln, ss, room, rfl, _⟩ := h
    rfl
  · obtain ⟨p, nm, ln, ss, room, rfl, hp, gn, hln, few, nd, gs, q⟩ := h
    have sl0 : sizeLine = 16777216 := sizeLine_eq
    have nln : ln ≠ p := fun z => by
      obtain ⟨n, e, _⟩ := hp
      rw [z, e] at hln
      cases ss with
      | nil => cases hln
      | cons s ss => cases hln
    refine ⟨_, (pss_cons (ps_set (i := 4) sc_mkhouse.nd rfl (Or.inl rfl) (pe_op oSub (pe_call G_take hr rfl m_take k_take b_take .nil pass0 (pa_cons (pV 0) (pa_cons pe_int pa_nil))) pe_int)) (pss_cons (ps_set (i := 5) sc_mkhouse.nd rfl (Or.inl rfl) (pe_ix iIx (pe_lst (pa_cons pe_int (pa_cons pe_int (pa_cons pe_int (pa_cons pe_int pa_nil))))) (pe_call G_take hr rfl m_take k_take b_take .nil pass0 (pa_cons (pV 0) (pa_cons pe_int pa_nil))) (fun _ _ => rfl))) (pss_cons (ps_set (i := 6) sc_mkhouse.nd rfl (Or.inl rfl) (pe_ix iIx (pe_lst (pa_cons pe_int (pa_cons pe_int (pa_cons pe_int (pa_cons pe_int pa_nil))))) (pe_call G_take hr rfl m_take k_take b_take .nil pass0 (pa_cons (pV 0) (pa_cons pe_int pa_nil))) (fun _ _ => rfl))) (pss_cons (ps_set (i := 7) sc_mkhouse.nd rfl (Or.inl rfl) (pe_op oSub (pe_call G_take hr rfl m_take k_take b_take .nil pass0 (pa_cons (pV 0) (pa_cons pe_int pa_nil))) pe_int)) (pss_cons (ps_set (i := 8) sc_mkhouse.nd rfl (Or.inl rfl) (pe_lst pa_nil)) (pss_cons (ps_set (i := 9) sc_mkhouse.nd rfl (Or.inl rfl) pe_dnewK) (pss_cons (ps_set (i := 10) sc_mkhouse.nd rfl (Or.inl rfl) pe_int) (pss_cons (ps_for PassesOwn.never rfl (pi_range1 rfl T.range (pa_cons (pe_call G_take hr rfl m_take k_take b_take .nil pass0 (pa_cons (pV 0) (pa_cons pe_int pa_nil))) pa_nil)) (pg_name (i := 11) sc_mkhouse.nd rfl (Or.inl rfl)) (pss_cons (ps_set (i := 12) sc_mkhouse.nd rfl (Or.inl rfl) (pe_op oAdd (pV 4) (pe_call G_take hr rfl m_take k_take b_take .nil pass0 (pa_cons (pV 0) (pa_cons (pe_op oAdd (pV 5) pe_int) pa_nil))))) (pss_cons (ps_set (i := 13) sc_mkhouse.nd rfl (Or.inl rfl) (pe_lst pa_nil)) (pss_cons (ps_for PassesOwn.never rfl (pi_range1 rfl T.range (pa_cons (pe_op oAdd pe_int (pe_call G_take hr rfl m_take k_take b_take .nil pass0 (pa_cons (pV 0) (pa_cons pe_int pa_nil)))) pa_nil)) (pg_name (i := 14) sc_mkhouse.nd rfl (Or.inl rfl)) (pss_one (ps_if (ptAnd (ptC oLt (pV 10) (pV 3) (nomark _)) (pw_and1 (ptC oLt (pV 10) (pe_callB call_len_seq rfl T.len PySem.boot_len (pa_cons (pV 2) pa_nil)) (nomark _)))) (pss_cons (ps_set (i := 7) sc_mkhouse.nd rfl (Or.inl rfl) (pe_op oAdd (pe_op oAdd (pV 7) pe_int) (pe_call G_take hr rfl m_take k_take b_take .nil pass0 (pa_cons (pV 0) (pa_cons pe_int pa_nil))))) (pss_cons (ps_set (i := 15) sc_mkhouse.nd rfl (Or.inl rfl) (pe_op oAdd (pV 7) (pV 12))) (pss_cons (ps_if (ptAnd (ptC (oNeNil hr.units) (pV 13) (pe_lst pa_nil) (nomark _)) (pw_and (ptC oLe (pe_op oAdd (pV 12) pe_int) (pe_op oAdd (pV 4) (pV 5)) (nomark _)) (pw_and (ptC oEq (pe_call G_take hr rfl m_take k_take b_take .nil pass0 (pa_cons (pV 0) (pa_cons pe_int pa_nil))) pe_int (nomark _)) (pw_and1 (ptC oGt (pV 6) pe_int (nomark _)))))) (pss_one (ps_set (i := 15) sc_mkhouse.nd rfl (Or.inl rfl) (pe_op oAdd (pV 15) pe_int))) pss_nil) (pss_cons (ps_if (ptAnd (ptC (oNeNil hr.units) (pV 13) (pe_lst pa_nil) (nomark _)) (pw_and1 (ptC oLe (pV 15) (pe_ix iIxT (pe_ix iIx (pV 13) (pe_un uNeg pe_int) (fun _ _ => rfl)) pe_int (fun _ _ => rfl)) (nomark _)))) (pss_one (ps_set (i := 15) sc_mkhouse.nd rfl (Or.inl rfl) (pe_op oAdd (pe_ix iIxT (pe_ix iIx (pV 13) (pe_un uNeg pe_int) (fun _ _ => rfl)) pe_int (fun _ _ => rfl)) pe_int))) pss_nil) (pss_cons (ps_dput (hu_of hr) (pV 9) (pe_ix iIx (pV 2) (pV 10) (fun _ _ => rfl)) (pV 7) rfl) (pss_cons (ps_expr (pe_bm PySem.F.plainAttrs_list PySem.F.slot_list_append PySem.F.type_list_append mt_append (pV 13) (pa_cons (pe_tup (pa_cons (pe_ix iIx (pV 2) (pV 10) (fun _ _ => rfl)) (pa_cons (pV 15) pa_nil))) pa_nil))) (pss_one (ps_set (i := 10) sc_mkhouse.nd rfl (Or.inl rfl) (pe_op oAdd (pV 10) pe_int))))))))) pss_nil))) (pss_cons (ps_if (ptC (oNeNil hr.units) (pV 13) (pe_lst pa_nil) (nomark _)) (pss_one (ps_expr (pe_bm PySem.F.plainAttrs_list PySem.F.slot_list_append PySem.F.type_list_append mt_append (pV 8) (pa_cons (pe_callTy call_tuple_of rfl T.tuple PyProof.Rows.boot_tuple (pa_cons (pV 13) pa_nil)) pa_nil)))) pss_nil) (pss_one (ps_set (i := 7) sc_mkhouse.nd rfl (Or.inl rfl) (pe_op oAdd (pV 7) (pe_call G_take hr rfl m_take k_take b_take .nil pass0 (pa_cons (pV 0) (pa_cons pe_int pa_nil))))))))))) (pss_one (ps_ret (pe_tup (pa_cons (pe_tup (pa_cons (pV 1) (pa_cons (pV 4) (pa_cons (pe_op oAdd (pV 4) (pV 5)) (pa_cons (pV 6) (pa_cons (pe_callTy call_tuple_of rfl T.tuple PyProof.Rows.boot_tuple (pa_cons (pV 8) pa_nil)) pa_nil)))))) (pa_cons (pV 9) pa_nil))))))))))))), ?_⟩
    refine asg_i fun U1 hU1 => ?_
    refine ⟨p, 41, rfl, hp, by decide, by decide, fun d1 H1 _ _ hp1 s1 => ?_⟩
    show U1 _ _
    subst hU1
    refine asg_i fun U2 hU2 => ?_
    refine ⟨by show 4 ≤ sizeLine; omega, fun l1 hl1 => ?_⟩
    refine ⟨p, 4, rfl, hp1.new hl1, by decide, by decide, fun d2 H2 d2a d2b hp2 s2 => ?_⟩
    have nl1 : l1 ≠ p := fun z => by obtain ⟨n, e, _⟩ := hp1; rw [← z, hl1] at e; cases e
    obtain ⟨wide, ew, w0, w1⟩ := menu4 (a := 0) (b := 3) (c := 40) (e := 300) d2a d2b (by decide) (by decide) (by decide) (by decide)
    refine ixAt (s2 l1 _ nl1 upd_same) ew ?_
    show U2 _ _
    subst hU2
    have S2 : SameB p H H2 := ((SameB.of (Same.refl H)).trans s1 |>.new hl1).trans s2
    refine asg_i fun U3 hU3 => ?_
    refine ⟨by show 4 ≤ sizeLine; omega, fun l2 hl2 => ?_⟩
    refine ⟨p, 4, rfl, hp2.new hl2, by decide, by decide, fun d3 H3 d3a d3b hp3 s3 => ?_⟩
    have nl2 : l2 ≠ p := fun z => by obtain ⟨n, e, _⟩ := hp2; rw [← z, hl2] at e; cases e
    obtain ⟨drift, ed, dr0, dr1⟩ := menu4 (a := 0) (b := 1) (c := 2) (e := 9) d3a d3b (by decide) (by decide) (by decide) (by decide)
    refine ixAt (s3 l2 _ nl2 upd_same) ed ?_
    show U3 _ _
    subst hU3
    have S3 : SameB p H H3 := (S2.new hl2).trans s3
    refine asg_i fun U4 hU4 => ?_
    refine ⟨p, 60, rfl, hp3, by decide, by decide, fun d4 H4 _ _ hp4 s4 => ?_⟩
    show U4 _ _
    subst hU4
    have S4 : SameB p H H4 := S3.trans s4
    refine asg_i fun U5 hU5 => ?_
    refine ⟨Nat.zero_le _, fun R hR => ?_⟩
    show U5 _ _
    subst hU5
    have nR : R ≠ p := fun z => by obtain ⟨n, e, _⟩ := hp4; rw [← z, hR] at e; cases e
    have fR : H R = none := by
      cases e : H R with
      | none => rfl
      | some o => have := S4 R o nR e; rw [hR] at this; cases this
    refine asg_i fun U6 hU6 => ?_
    refine fun D hD => ?_
    show U6 _ _
    subst hU6
    have hp5 := hp4.new (o := .lst []) hR
    have S5 : SameB p H (upd H4 R (.lst [])) := S4.new hR
    have nD : D ≠ p := fun z => by obtain ⟨n, e, _⟩ := hp5; rw [← z, hD] at e; cases e
    have nRD : R ≠ D := ne_of_none upd_same hD
    have fD : H D = none := by
      cases e : H D with
      | none => rfl
      | some o => have := S5 D o nD e; rw [hD] at this; cases this
    have nlD : ln ≠ D := ne_of_none hln fD
    refine ⟨p, 4, rfl, hp5.new hD, by decide, by decide, fun n1 H6 n1a n1b hp6 s6 => ?_⟩
    have S6 : SameB p H H6 := (S5.new hD).trans s6
    obtain ⟨low, hlow⟩ : ∃ low, low = d1 - 20 := ⟨_, rfl⟩
    refine ⟨n1, rfl, by omega, by omega, for_range (lo := 0) (n := n1.toNat) (PvA p ln R D nm room low wide drift H ss) ?_ (fun i σ H' hi hz16 => ?_) (fun σ H' hz17 => ?_)⟩
    · exact ⟨_, 0, [], [], [], none, none, none, none, none, by subst hlow; rfl, ⟨hp6, S6, s6 R _ nR (by rw [upd_ne nRD]; exact upd_same), .nil, s6 D _ nD upd_same, rfl, fun n hn => by simp at hn, Nat.zero_le _, .inr rfl, fun r hr => by simp at hr⟩, rfl, Nat.zero_le _⟩
    · refine hideP fun Rz0 hRz0 => ?_
      obtain ⟨mo, m, vr, kvs, runs, o11, o12, o13, o14, o15, eσ, S, fl, rl⟩ := hz16
      subst hRz0
      subst eσ
      refine ⟨p, wide + 1, rfl, S.pack, by omega, by omega, fun ofv Ha _ _ hpa sa => ?_⟩
      have Sa := S.step nR nD hpa sa
      refine ⟨Nat.zero_le _, fun L hL => ?_⟩
      have Sb := Sa.new (o := .lst []) nR nD hL
      have nLp : L ≠ p := fun z => by obtain ⟨n, e, _⟩ := Sa.pack; rw [← z, hL] at e; cases e
      have nLR : L ≠ R := fun z => by rw [z, Sa.hR] at hL; cases hL
      have nLD : L ≠ D := fun z => by rw [z, Sa.hD] at hL; cases hL
      have fL : H L = none := by
        cases e : H L with
        | none => rfl
        | some o => have := Sa.same L o nLp e; rw [hL] at this; cases this
      refine ⟨p, 3, rfl, Sb.pack, by decide, by decide, fun n2 Hc n2a n2b hpc sc => ?_⟩
      have Sc := Sb.step nR nD hpc sc
      have hLc : Hc L = some (.lst []) := sc L _ nLp upd_same
      refine ⟨1 + n2, rfl, by omega, by omega, for_range (lo := 0) (n := (1 + n2).toNat) (PvB p ln R D L nm room low wide drift ofv H ss i vr runs) ?_ (fun j σ H'' hj hz18 => ?_) (fun σ H'' hz19 => ?_)⟩
      · exact ⟨mo, m, kvs, [], [], _, _, rfl, Sc, hLc, .nil, by rw [List.append_nil]; exact fl, Nat.zero_le _, List.Pairwise.nil⟩
      · refine hideP fun Rz0 hRz0 => ?_
        obtain ⟨mo, m, kvs, vl, rs, o14, o15, eσ, S, hL', pl, fl', rl', ris⟩ := hz18
        subst hRz0
        subst eσ
        have gr : ∀ r ∈ rs, Good r.1 := fun r hr => gs r.1 (by
          have z : r.1 ∈ ss.take m := by rw [← fl', List.map_append]; exact List.mem_append_right _ (List.mem_map_of_mem hr)
          exact List.mem_of_mem_take z)
        have skip : ∃ (mo' : Int) (m' : Nat) (kvs' : List (Key × V)) (vl' : List V) (rs' : List Row) (o14' o15' : Option V), ([some (.ref p), some (.str nm), some (.ref ln), some (.int room), some (.int low), some (.int wide), some (.int drift), some (.int mo), some (.ref R), some (.ref D), some (.int (m : Int)), some (.int (0 + (i : Int))), some (.int (low + ofv)), some (.ref L), some (.int (0 + (j : Int))), o15] : St) = [some (.ref p), some (.str nm), some (.ref ln), some (.int room), some (.int low), some (.int wide), some (.int drift), some (.int mo'), some (.ref R), some (.ref D), some (.int (m' : Int)), some (.int (0 + (i : Int))), some (.int (low + ofv)), some (.ref L), o14', o15'] ∧
          HS H p R D ss room H'' vr kvs' runs m' ∧ H'' L = some (.lst vl') ∧ Paired (RowAt H'') vl' rs' ∧ (runs.flatten ++ rs').map Prod.fst = ss.take m' ∧ rs'.length ≤ j + 1 ∧ (rs'.map Prod.snd).Pairwise (· < ·) := ⟨mo, m, kvs, vl, rs, _, _, rfl, S, hL', pl, fl', Nat.le_succ_of_le rl', ris⟩
        refine ite2 (fun c1 => ?_) (fun c1 => skip)
        refine ⟨ln, _, rfl, .inl (SqL.of (S.same ln _ nln hln)), ?_⟩
        refine ite2 (fun c2 => ?_) (fun c2 => skip)
        clear skip
        have hroom : (m : Int) < room := of_decide_eq_true c1
        have hlen : m < ss.length := by
          have z : (m : Int) < ((ss.map V.str).length : Int) := of_decide_eq_true c2
          rw [List.length_map] at z; omega
        refine hideP fun Rz1 hRz1 => ?_
        obtain ⟨n, hn⟩ : ∃ n, ss[m]? = some n := ⟨ss[m], List.getElem?_eq_getElem hlen⟩
        subst hRz1
        refine asg_i fun V1 hV1 => ?_
        refine ⟨p, 30, rfl, S.pack, by decide, by decide, fun d5 Hd _ _ hpd sd => ?_⟩
        show V1 _ _
        subst hV1
        refine asg_i fun V2 hV2 => ?_
        show V2 _ _
        subst hV2
        have Sd := S.step nR nD hpd sd
        have hLd : Hd L = some (.lst vl) := sd L _ nLp hL'
        have pld : Paired (RowAt Hd) vl rs := paired_mono (fun _ _ z => z.ts (SameB.tups S.pack sd)) pl
        refine if_join (NvR p ln R D L nm room low wide drift ofv (mo + 1 + d5) m (.int (0 + (i : Int))) (.int (0 + (j : Int))) H ss vr vl kvs runs rs (fun _ => True)) (fun U hU => ?_) (fun σ2 H2 hN2 => ?_)
        · have fin0 : ∀ (rd : Int) (H9 : Hp), HS H p R D ss room H9 vr kvs runs m → H9 L = some (.lst vl) → Paired (RowAt H9) vl rs → U [some (.ref p), some (.str nm), some (.ref ln), some (.int room), some (.int low), some (.int wide), some (.int drift), some (.int (mo + 1 + d5)), some (.ref R), some (.ref D), some (.int (m : Int)), some (.int (0 + (i : Int))), some (.int (low + ofv)), some (.ref L), some (.int (0 + (j : Int))), some (.int rd)] H9 := fun rd H9 x1 x2 x3 => hU _ _ ⟨rd, rfl, x1, x2, x3, trivial⟩
          refine ⟨Nat.zero_le _, fun e1 he1 => ?_⟩
          have Se := Sd.new (o := .lst []) nR nD he1
          have hLe : upd Hd e1 (.lst []) L = some (.lst vl) := (upd_ne (ne_of_none hLd he1)).trans hLd
          have ple : Paired (RowAt (upd Hd e1 (.lst []))) vl rs := paired_mono (fun _ _ z => z.ts ((Tups.refl Hd).new he1)) pld
          refine neNil hLe ple gr upd_same ?_
          generalize (!rs.isEmpty) = bb
          cases bb with
          | false => exact fin0 _ _ Se hLe ple
          | true =>
            refine ite2 (fun k1 => ?_) (fun k1 => fin0 _ _ Se hLe ple)
            refine ⟨p, 3, rfl, Se.pack, by decide, by decide, fun d6 Hh _ _ hph sh => ?_⟩
            have Sh := Se.step nR nD hph sh
            have hLh : Hh L = some (.lst vl) := sh L _ nLp hLe
            have plh : Paired (RowAt Hh) vl rs := paired_mono (fun _ _ z => z.ts (SameB.tups Se.pack sh)) ple
            exact ite2 (fun k2 => ite2 (fun k3 => fin0 _ _ Sh hLh plh) (fun k3 => fin0 _ _ Sh hLh plh)) (fun k2 => fin0 _ _ Sh hLh plh)
        refine hideP fun Rz1 hRz1 => ?_
        obtain ⟨rd, eσ2, Sx, hLx, plx, _⟩ := hN2
        subst hRz1
        subst eσ2
        refine if_join (NvR p ln R D L nm room low wide drift ofv (mo + 1 + d5) m (.int (0 + (i : Int))) (.int (0 + (j : Int))) H ss vr vl kvs runs rs (fun rd => ∀ r ∈ rs, r.2 < rd)) (fun U hU => ?_) (fun σ3 H3 hN3 => ?_)
        · refine ⟨Nat.zero_le _, fun fa hfa => ?_⟩
          have Sga := Sx.new (o := .lst []) nR nD hfa
          have hLga : upd H2 fa (.lst []) L = some (.lst vl) := (upd_ne (ne_of_none hLx hfa)).trans hLx
          have plga : Paired (RowAt (upd H2 fa (.lst []))) vl rs := paired_mono (fun _ _ z => z.ts ((Tups.refl _).new hfa)) plx
          refine neNil hLga plga gr upd_same ?_
          rcases List.eq_nil_or_concat rs with er | ⟨rs0, rl0, er⟩
          · subst er
            exact hU _ _ ⟨_, rfl, Sga, hLga, plga, fun r hr => by simp at hr⟩
          · rw [List.concat_eq_append] at er
            have ne : (!rs.isEmpty) = true := by rw [er]; simp
            rw [ne]
            have lastI : ∃ vl0 vL, vl = vl0 ++ [vL] ∧ ∀ Hx, Paired (RowAt Hx) vl rs → RowAt Hx vL rl0 := by
              have hv : vl ≠ [] := fun z => by
                have := pl.length
                rw [z, er] at this
                simp at this
              obtain ⟨vl0, vL, ev⟩ := (List.eq_nil_or_concat vl).resolve_left hv
              rw [List.concat_eq_append] at ev
              refine ⟨vl0, vL, ev, fun Hx px => ?_⟩
              have l1 := px.length
              rw [ev, er, List.length_append, List.length_append] at l1
              have e1 : vl[vl0.length]? = some vL := by rw [ev]; simp
              obtain ⟨r, hr, ra⟩ := paired_getL px e1
              have e2 : rs[vl0.length]? = some rl0 := by
                have : vl0.length = rs0.length := by simpa using l1
                rw [er, this]; simp
              rw [e2] at hr
              cases hr
              exact ra
            refine hideP fun Rz0 hRz0 => ?_
            obtain ⟨vl0, vL, evl, lastR⟩ := lastI
            obtain ⟨gaa, rfl, gba⟩ := lastR _ plga
            subst hRz0
            have lastLt : ∀ rd : Int, rl0.2 < rd → ∀ r ∈ rs, r.2 < rd := fun rd h r hr => by
              rw [er] at hr ris
              rcases List.mem_append.mp hr with z | z
              · rw [List.map_append] at ris
                have := (List.pairwise_append.mp ris).2.2 r.2 (List.mem_map_of_mem z) rl0.2 (by simp)
                omega
              · rw [List.mem_singleton.mp z]; exact h
            refine ixAt hLga (i := -1) (v := .ref gaa) (by rw [evl]; exact atI_last) ?_
            refine ixTup (SqT.of gba) (i := 1) (v := .int rl0.2) (by rfl) ?_
            refine ite2 (fun cc => ?_) (fun cc => ?_)
            · refine ixAt hLga (i := -1) (v := .ref gaa) (by rw [evl]; exact atI_last) ?_
              refine ixTup (SqT.of gba) (i := 1) (v := .int rl0.2) (by rfl) ?_
              exact hU _ _ ⟨_, rfl, Sga, hLga, plga, lastLt _ (by omega)⟩
            · have cc2 : ¬ rd ≤ rl0.2 := fun z => cc (decide_eq_true z)
              exact hU _ _ ⟨_, rfl, Sga, hLga, plga, lastLt _ (by omega)⟩
        refine hideP fun Rz1 hRz1 => ?_
        obtain ⟨rd, eσ3, Sy, hLy, ply, lt⟩ := hN3
        subst hRz1
        subst eσ3
        refine ixAt (Sy.same ln _ nln hln) (i := (m : Int)) (v := .str n) (atI_nat (by rw [List.getElem?_map, hn]; rfl)) ?_
        refine ⟨D, _, rfl, DPut.k (k := Sum.inr n) Sy.hD (by have z := congrArg List.length Sy.keys; rw [List.length_map, List.length_map, List.length_take] at z; omega), ?_⟩
        have hLq : upd H3 D (.dK (putK kvs (.inr n) (.int (mo + 1 + d5)))) L = some (.lst vl) := (upd_ne nLD).trans hLy
        refine ⟨.inl ⟨rfl, _, SqL.of hLq⟩, ?_⟩
        refine ixAt ((upd_ne nlD).trans (Sy.same ln _ nln hln)) (i := (m : Int)) (v := .str n) (atI_nat (by rw [List.getElem?_map, hn]; rfl)) ?_
        refine ⟨by show 2 ≤ sizeLine; omega, fun tp htp => ?_⟩
        obtain ⟨Sq, pq⟩ := HS.put (rd := rd) Sy nR nD nRD nLp nLR nLD fD fL nd hn hroom hLy ply htp
        refine ⟨L, vl, _, rfl, rfl, (upd_ne (ne_of_none hLq htp)).trans hLq, by have z := ply.length; omega, ?_⟩
        exact ⟨_, m + 1, _, _, rs ++ [(n, rd)], _, _, rfl, Sq, upd_same, pq, by rw [← List.append_assoc, List.map_append, fl', take_get hn]; rfl, by rw [List.length_append]; exact Nat.add_le_add_right rl' 1, rise_snoc ris lt⟩
      · refine hideP fun Rz0 hRz0 => ?_
        obtain ⟨mo, m, kvs, vl, rs, o14, o15, eσ, S, hL', pl, fl', rl', ris⟩ := hz19
        subst hRz0
        subst eσ
        have gr : ∀ r ∈ rs, Good r.1 := fun r hr => gs r.1 (by
          have z : r.1 ∈ ss.take m := by rw [← fl', List.map_append]; exact List.mem_append_right _ (List.mem_map_of_mem hr)
          exact List.mem_of_mem_take z)
        refine ⟨Nat.zero_le _, fun e1 he1 => ?_⟩
        have Se := S.new (o := .lst []) nR nD he1
        have hLe : upd H'' e1 (.lst []) L = some (.lst vl) := (upd_ne (ne_of_none hL' he1)).trans hL'
        have ple : Paired (RowAt (upd H'' e1 (.lst []))) vl rs := paired_mono (fun _ _ z => z.ts ((Tups.refl _).new he1)) pl
        have lr := ple.length
        have lrr := Se.pR.length
        refine neNil hLe ple gr upd_same ?_
        refine ite2 (fun c1 => ?_) (fun c1 => ?_)
        · have rne : rs ≠ [] := fun z => by rw [z] at c1; cases c1
          refine ⟨.inl ⟨rfl, _, SqL.of Se.hR⟩, ?_⟩
          refine ⟨L, vl, rfl, .inl ⟨SqL.of hLe, fun t9 ht9 => ?_⟩⟩
          have St := Se.new (o := .tup vl) nR nD ht9
          refine ⟨R, vr, _, rfl, rfl, St.hR, by omega, ?_⟩
          have tt : Tups (upd (upd H'' e1 (.lst [])) t9 (.tup vl)) (upd (upd (upd H'' e1 (.lst [])) t9 (.tup vl)) R (.lst (vr ++ [.ref t9]))) := (Tups.refl _).put St.hR (fun _ z => nomatch z)
          have Su : HS H p R D ss room (upd (upd (upd H'' e1 (.lst [])) t9 (.tup vl)) R (.lst (vr ++ [.ref t9]))) (vr ++ [.ref t9]) kvs (runs ++ [rs]) m := by
            refine ⟨St.pack.put nR, fun b o hb e => ?_, upd_same, ?_, (upd_ne (Ne.symm nRD)).trans St.hD, St.keys, St.vals, St.le, St.rm, fun r hr => ?_⟩
            · rw [upd_ne (ne_of_none e fR)]; exact St.same b o hb e
            · refine paired_app (paired_mono (fun _ _ z => z.ts tt) St.pR) (.cons ⟨t9, vl, rfl, tt _ _ upd_same, paired_mono (fun _ _ z => z.ts (((Tups.refl _).new ht9).trans tt)) ple⟩ .nil)
            · rcases List.mem_append.mp hr with z | z
              · exact St.good r z
              · rw [List.mem_singleton.mp z]
                exact ⟨rne, by omega, gr, ris⟩
          refine ⟨p, 5, rfl, Su.pack, by decide, by decide, fun d9 Hz _ _ hpz sz => ?_⟩
          exact ⟨_, m, _, kvs, runs ++ [rs], _, _, _, _, _, rfl, Su.step nR nD hpz sz, by rw [List.flatten_append]; simpa using fl', by rw [List.length_append]; exact Nat.add_le_add_right rl 1⟩
        · have rne : rs = [] := by
            cases rs with
            | nil => rfl
            | cons r rs => exact absurd rfl c1
          subst rne
          refine ⟨p, 5, rfl, Se.pack, by decide, by decide, fun d9 Hz _ _ hpz sz => ?_⟩
          exact ⟨_, m, _, kvs, runs, _, _, _, _, _, rfl, Se.step nR nD hpz sz, by simpa using fl', Nat.le_succ_of_le rl⟩
    · refine hideP fun Rz0 hRz0 => ?_
      obtain ⟨mo, m, vr, kvs, runs, o11, o12, o13, o14, o15, eσ, S, fl, rl⟩ := hz17
      subst hRz0
      subst eσ
      have lr := S.pR.length
      refine ⟨R, vr, rfl, .inl ⟨SqL.of S.hR, fun t1 h1 => ?_⟩⟩
      have Sa := S.new (o := .tup vr) nR nD h1
      refine ⟨by show 5 ≤ sizeLine; omega, fun t2 h2 => ?_⟩
      have Sb := Sa.new (o := .tup [.str nm, .int low, .int (low + wide), .int drift, .ref t1]) nR nD h2
      refine ⟨by show 2 ≤ sizeLine; omega, fun t3 h3 => ?_⟩
      have Sc := Sb.new (o := .tup [.ref t2, .ref D]) nR nD h3
      have nt3 : t3 ≠ p := fun z => by obtain ⟨n, e, _⟩ := Sb.pack; rw [← z, h3] at e; cases e
      have ft3 : H t3 = none := by
        cases e : H t3 with
        | none => rfl
        | some o => have := Sb.same t3 o nt3 e; rw [h3] at this; cases this
      refine q t3 D (.ref t2) ⟨nm, low, low + wide, drift, runs⟩ kvs m _ ft3 fD upd_same ⟨t2, .ref t1, rfl, (upd_ne (ne_of_none upd_same h3)).trans upd_same, t1, vr, rfl, ?_, Sc.pR⟩ ⟨gn, by show low ≤ low + wide; omega, dr0, by show runs.length ≤ 25; omega, Sc.good⟩ rfl fl Sc.le Sc.rm Sc.hD Sc.keys Sc.vals Sc.pack Sc.same
      have e1 : upd (upd H' t1 (.tup vr)) t2 (.tup [.str nm, .int low, .int (low + wide), .int drift, .ref t1]) t1 = some (.tup vr) := (upd_ne (ne_of_none upd_same h2)).trans upd_same
      exact (upd_ne (ne_of_none e1 h3)).trans e1
end
end K02
namespace K02
open PySem L2
theorem oNeS {X : Cx} : OpR X (compareOp .NotEq) (fS fun i j => .bl (!decide (i = j))) := by
  intro pins s σ H x y v u Q I rx ry q
  refine op_ne pins s σ H x y v u Q I rx ry ?_
  cases x <;> cases y <;> first
    | exact (show False from q).elim
    | (refine ⟨rfl, ?_⟩
       rename_i i j
       have e : decide (V.str i = V.str j) = decide (i = j) := by rw [Bool.eq_iff_iff]; simp
       rw [e]; exact q)
theorem mem_putK {κ : Type} [DecidableEq κ] {kvs : List (κ × V)} {k : κ} {v : V} {x : κ × V} (h : x ∈ putK kvs k v) : x = (k, v) ∨ x ∈ kvs := by
  unfold putK at h
  split at h
  · obtain ⟨y, hy, e⟩ := List.mem_map.mp h
    split at e
    · rename_i c
      exact .inl (by rw [← e, c])
    · exact .inr (by rw [← e]; exact hy)
  · rcases List.mem_append.mp h with z | z
    · exact .inr z
    · exact .inl (List.mem_singleton.mp z)
theorem valV_mem {κ : Type} [DecidableEq κ] {kvs : List (κ × V)} {k : κ} (h : k ∈ kvs.map (·.1)) : ∃ v, valV kvs k = some v ∧ (k, v) ∈ kvs := by
  induction kvs with
  | nil => simp at h
  | cons x r ih =>
    by_cases e : x.1 = k
    · refine ⟨x.2, valV_pos e, ?_⟩
      rw [← e]; exact List.mem_cons_self
    · rw [List.map_cons] at h
      rcases List.mem_cons.mp h with z | z
      · exact absurd z.symm e
      · obtain ⟨v, h1, h2⟩ := ih z
        exact ⟨v, by rw [valV_neg e]; exact h1, List.mem_cons_of_mem _ h2⟩
noncomputable def OwnsL (kvs : List (Key × V)) (ps : List (Str × Str)) : Prop := ∀ p ∈ ps, valV kvs (.inr p.1) = some (.str p.2)
theorem OwnsL.put {kvs : List (Key × V)} {ps : List (Str × Str)} {p : Str × Str} (h : OwnsL kvs ps) (n : ∀ q ∈ ps, q.1 ≠ p.1) : OwnsL (putK kvs (.inr p.1) (.str p.2)) (ps ++ [p]) := fun q hq => by
  rw [valV_put]
  rcases List.mem_append.mp hq with z | z
  · rw [if_neg (fun e => n q z (Sum.inr.inj e))]; exact h q z
  · rw [List.mem_singleton.mp z, if_pos rfl]
noncomputable def FoundOk (hs : List House) (H : Hp) (kf : List (List Key × V)) : Prop := ∀ kv ∈ kf, ∃ l : Letter, kv.1 = kP l.1 ∧ LetterAt H kv.2 l ∧ GoodLetter hs l
theorem FoundOk.keys {hs : List House} {H : Hp} : ∀ {kf : List (List Key × V)}, FoundOk hs H kf → ∃ ks : List (Str × Str), kf.map (·.1) = ks.map kP ∧ ks.length = kf.length
  | [], _ => ⟨[], rfl, rfl⟩
  | kv :: r, h => by
    obtain ⟨l, e, _⟩ := h kv List.mem_cons_self
    obtain ⟨ks, e2, e3⟩ := FoundOk.keys (kf := r) fun x hx => h x (List.mem_cons_of_mem _ hx)
    exact ⟨l.1 :: ks, by rw [List.map_cons, List.map_cons, e, e2], by simp [e3]⟩
noncomputable def pairsR (nm : Str) (r : List Row) : List (Str × Str) := r.map fun x => (x.1, nm)
theorem pairsH_flat (h : House) : pairsH h = h.runs.flatMap (pairsR h.name) := by
  unfold pairsH rowsH pairsR
  rw [List.map_flatten, List.flatMap_def]
theorem owner_of {hs : List House} {kvs : List (Key × V)} {n : Str} (ow : OwnsL kvs (pairsOf hs)) (h : n ∈ namesOf hs) : ∃ hh ∈ hs, n ∈ namesH hh ∧ valV kvs (.inr n) = some (.str hh.name) := by
  obtain ⟨hh, m, hn⟩ := List.mem_flatMap.mp h
  refine ⟨hh, m, hn, ow (n, hh.name) (List.mem_flatMap.mpr ⟨hh, m, ?_⟩)⟩
  obtain ⟨r, hr, er⟩ := List.mem_map.mp hn
  exact List.mem_map.mpr ⟨r, hr, by rw [er]⟩
theorem names_good {hs : List House} (g : ∀ h ∈ hs, GoodHouse h) {n : Str} (h : n ∈ namesOf hs) : Good n := by
  obtain ⟨hh, m, hn⟩ := List.mem_flatMap.mp h
  obtain ⟨r, hr, er⟩ := List.mem_map.mp hn
  obtain ⟨run, hrun, hr2⟩ := List.mem_flatten.mp hr
  rw [← er]
  exact ((g hh m).runs run hrun).names r hr2
noncomputable def spMkLetters : Sp := fun vs H Q _ => ∃ (p lh dh : Addr) (vh : List V) (hs : List House) (kvs : List (Key × V)), vs = [.ref p, .ref lh, .ref dh] ∧ PackAt H p ∧ H lh = some (.lst vh) ∧ Paired (HouseAt H) vh hs ∧ hs.length ≤ 6 ∧ (∀ h ∈ hs, GoodHouse h) ∧ (namesOf hs).Nodup ∧ (namesOf hs).length ≤ 24 ∧
  H dh = some (.dK kvs) ∧ kvs.map (·.1) = (namesOf hs).map Sum.inr ∧ (∀ n ∈ namesOf hs, ∃ i : Int, valV kvs (.inr n) = some (.int i)) ∧
  ∀ (x : V) (ls : List Letter) (H' : Hp), LettersAt H' x ls → GoodLetters hs ls → PackAt H' p → SameB p H H' → Q x H'
noncomputable def PvC (p lh dh O : Addr) (hs : List House) (H : Hp) : Nat → St → Hp → Prop := fun i σ H' => ∃ (kv : List (Key × V)) (o4 o5 o6 o7 : Option V), σ = [some (.ref p), some (.ref lh), some (.ref dh), some (.ref O), o4, o5, o6, o7, none, none, none, none, none, none, none, none] ∧ H' O = some (.dK kv) ∧ OwnsL kv (pairsOf (hs.take i)) ∧ kv.length ≤ (pairsOf (hs.take i)).length ∧ Same H H'
noncomputable def PvD (p lh dh O a : Addr) (hs : List House) (hh : House) (i : Nat) (H : Hp) : Nat → St → Hp → Prop := fun j σ H' => ∃ (kv : List (Key × V)) (o5 o6 o7 : Option V), σ = [some (.ref p), some (.ref lh), some (.ref dh), some (.ref O), some (.ref a), o5, o6, o7, none, none, none, none, none, none, none, none] ∧ H' O = some (.dK kv) ∧ OwnsL kv (pairsOf (hs.take i) ++ (hh.runs.take j).flatMap (pairsR hh.name)) ∧ kv.length ≤ (pairsOf (hs.take i) ++ (hh.runs.take j).flatMap (pairsR hh.name)).length ∧ Same H H'
noncomputable def PvE (p lh dh O a c2 : Addr) (hs : List House) (hh : House) (i j : Nat) (r : List Row) (H : Hp) : Nat → St → Hp → Prop := fun t σ H' => ∃ (kv : List (Key × V)) (o6 o7 : Option V), σ = [some (.ref p), some (.ref lh), some (.ref dh), some (.ref O), some (.ref a), some (.ref c2), o6, o7, none, none, none, none, none, none, none, none] ∧ H' O = some (.dK kv) ∧ OwnsL kv (pairsOf (hs.take i) ++ (hh.runs.take j).flatMap (pairsR hh.name) ++ (pairsR hh.name r).take t) ∧ kv.length ≤ (pairsOf (hs.take i) ++ (hh.runs.take j).flatMap (pairsR hh.name) ++ (pairsR hh.name r).take t).length ∧ Same H H'
noncomputable def PvF (p lh dh O l8 F : Addr) (hs : List House) (H2 : Hp) : Nat → St → Hp → Prop := fun i σ H' => ∃ (kf : List (List Key × V)) (o4 o5 o6 o7 o10 o11 o12 o13 o14 o15 : Option V), σ = [some (.ref p), some (.ref lh), some (.ref dh), some (.ref O), o4, o5, o6, o7, some (.ref l8), some (.ref F), o10, o11, o12, o13, o14, o15] ∧ PackAt H' p ∧ SameB p H2 H' ∧ H' F = some (.dT kf) ∧ kf.length ≤ i ∧ FoundOk hs H' kf
section
variable {P : Program} {w : World} {K : PySem.W.Frag} {mg : Str → Option Value} {base : Heap} {t8 t6 tR tL : Tok}
theorem sc_mkletters : FnScope ["_law_pack_here", "_law_houses", "_law_hidden", "_law_home", "_law_house_here", "_law_run", "_law_name", "_law_reading", "_law_rows_here", "_law_found", "_law_turn", "_law_one", "_law_other", "_law_gap", "_law_slack", "_law_most"] ["_law_pack_here", "_law_houses", "_law_hidden"] (defScope sMkLetters) := ⟨rfl, rfl, rfl, by decide +kernel, rfl, by decide +kernel, by decide +kernel⟩
theorem ok_mkletters {f f_take : Addr} {fd fd_take : FuncData} (F : Fun K "_law_letters" "_law_letters" sMkLetters f fd) (T : Txt mg t8 t6 tR tL)
    (G_take : FnOk P w K mg base CX0 1 f_take fd_take ["_law_pack_here", "_law_size"] spTake) (m_take : mg "_law_take" = some (.ref f_take)) (k_take : PySem.W.keepIn K (.ref f_take) = true) (b_take : Binds K fd_take ["_law_pack_here", "_law_size"] []) : FnOk P w K mg base CX0 2 f fd ["_law_pack_here", "_law_houses", "_law_hidden"] spMkLetters := by
  refine F.ok sc_mkletters (fun vs H Q E h => ?_) (fun cdv A outer s H vs Q E hr h => ?_)
  · obtain ⟨p, lh, dh, vh, hs, kvs, rfl, _⟩ := h
    rfl
  · obtain ⟨p, lh, dh, vh, hs, kvs, rfl, hp, hlh, ph, h6, gh, nd, few, hdh, keys, vals, q⟩ := h
    have sl0 : sizeLine = 16777216 := sizeLine_eq
    have nlh : lh ≠ p := fun z => by
      obtain ⟨n, e, _⟩ := hp
      rw [z, e] at hlh
      cases ph with
      | nil => cases hlh
      | cons h _ => obtain ⟨a, b, rfl, _⟩ := h; cases hlh
    have ndh : dh ≠ p := fun z => by obtain ⟨n, e, _⟩ := hp; rw [z, e] at hdh; cases hdh
    refine ⟨_, (pss_cons (ps_set (i := 3) sc_mkletters.nd rfl (Or.inl rfl) pe_dnewK) (pss_cons (ps_for PassesOwn.never rfl (pi_list (pV 1)) (pg_name (i := 4) sc_mkletters.nd rfl (Or.inl rfl)) (pss_one (ps_for PassesOwn.never rfl (pi_tup (pe_ix iIxT (pV 4) pe_int (fun _ _ => rfl))) (pg_name (i := 5) sc_mkletters.nd rfl (Or.inl rfl)) (pss_one (ps_for PassesOwn.never rfl (pi_tup (pV 5)) (pg_tup rfl (pgs_cons (pg_name (i := 6) sc_mkletters.nd rfl (Or.inl rfl)) (pgs_cons (pg_name (i := 7) sc_mkletters.nd rfl (Or.inl rfl)) pgs_nil))) (pss_one (ps_dput (hu_of hr) (pV 3) (pV 6) (pe_ix iIxT (pV 4) pe_int (fun _ _ => rfl)) rfl))))))) (pss_cons (ps_set (i := 8) sc_mkletters.nd rfl (Or.inl rfl) (pe_callB (call_sortedD rfl) rfl T.sorted PyProof.Rows.boot_sorted (pa_cons (pV 2) pa_nil))) (pss_cons (ps_set (i := 9) sc_mkletters.nd rfl (Or.inr rfl) pe_dnewT) (pss_cons (ps_for PassesOwn.never rfl (pi_range1 rfl T.range (pa_cons (pe_call G_take hr rfl m_take k_take b_take .nil pass0 (pa_cons (pV 0) (pa_cons pe_int pa_nil))) pa_nil)) (pg_name (i := 10) sc_mkletters.nd rfl (Or.inl rfl)) (pss_one (ps_if (ptC oGt (pe_callB call_len_seq rfl T.len PySem.boot_len (pa_cons (pV 8) pa_nil)) pe_int (nomark _)) (pss_cons (ps_set (i := 11) sc_mkletters.nd rfl (Or.inl rfl) (pe_ix iIx (pV 8) (pe_call G_take hr rfl m_take k_take b_take .nil pass0 (pa_cons (pV 0) (pa_cons (pe_callB call_len_seq rfl T.len PySem.boot_len (pa_cons (pV 8) pa_nil)) pa_nil))) (fun _ _ => rfl))) (pss_cons (ps_set (i := 12) sc_mkletters.nd rfl (Or.inl rfl) (pe_ix iIx (pV 8) (pe_call G_take hr rfl m_take k_take b_take .nil pass0 (pa_cons (pV 0) (pa_cons (pe_callB call_len_seq rfl T.len PySem.boot_len (pa_cons (pV 8) pa_nil)) pa_nil))) (fun _ _ => rfl))) (pss_cons (ps_set (i := 13) sc_mkletters.nd rfl (Or.inl rfl) (pe_op oSub (pe_dget (hu_of hr) (pV 2) (pV 12) (fun _ _ => rfl)) (pe_dget (hu_of hr) (pV 2) (pV 11) (fun _ _ => rfl)))) (pss_cons (ps_set (i := 14) sc_mkletters.nd rfl (Or.inl rfl) (pe_call G_take hr rfl m_take k_take b_take .nil pass0 (pa_cons (pV 0) (pa_cons pe_int pa_nil)))) (pss_one (ps_if (ptAnd (ptC oNeS (pe_dget (hu_of hr) (pV 3) (pV 11) (fun _ _ => rfl)) (pe_dget (hu_of hr) (pV 3) (pV 12) (fun _ _ => rfl)) (nomark _)) (pw_and1 (ptC oGt (pV 13) pe_int (nomark _)))) (pss_cons (ps_set (i := 15) sc_mkletters.nd rfl (Or.inl rfl) (pe_ix iIx (pe_lst (pa_cons pe_non (pa_cons (pV 13) (pa_cons (pe_op oAdd (pV 13) (pV 14)) pa_nil)))) (pe_call G_take hr rfl m_take k_take b_take .nil pass0 (pa_cons (pV 0) (pa_cons pe_int pa_nil))) (fun _ _ => rfl))) (pss_one (ps_dput (hu_of hr) (pV 9) (pe_tup (pa_cons (pV 11) (pa_cons (pV 12) pa_nil))) (pe_tup (pa_cons (pV 11) (pa_cons (pV 12) (pa_cons (pe_callB (call_max2 rfl) rfl T.max PyProof.Rows.boot_max (pa_cons pe_int (pa_cons (pe_op oSub (pV 13) (pV 14)) pa_nil))) (pa_cons (pV 15) pa_nil))))) rfl))) pss_nil)))))) pss_nil))) (pss_one (ps_ret (pe_callTy call_tuple_of rfl T.tuple PyProof.Rows.boot_tuple (pa_cons (pe_comp (scX := defScope sMkLetters) (own := ["_law_pair"]) (cap := ["_law_found"]) (ix := [9]) rfl rfl ⟨rfl, by decide +kernel, by decide +kernel, by decide +kernel, rfl, by decide +kernel⟩ (pi_list (pe_callB (call_sortedT rfl) rfl T.sorted PyProof.Rows.boot_sorted (pa_cons (pV 9) pa_nil))) (fun b => (pg_name (i := 0) (show (["_law_pair", "_law_found"] : List Str).Nodup by decide +kernel) rfl (Or.inl rfl))) (fun b => pif_nil) (fun b => (pe_dget (hu_of hr) (pV 1) (pV 0) (fun _ _ => rfl)))) pa_nil))))))))), ?_⟩
    refine fun O hO => ?_
    have s0 : Same H (upd H O (.dK [])) := (Same.refl H).upd hO
    have bigP : (pairsOf hs).length ≤ 24 := by
      have z := few
      rw [← pairsOf_fst, List.length_map] at z
      exact z
    have ndP : ((pairsOf hs).map Prod.fst).Nodup := by rw [pairsOf_fst]; exact nd
    have putOk : ∀ (A : List (Str × Str)) (x : Str × Str) (B : List (Str × Str)) (kv : List (Key × V)), pairsOf hs = A ++ x :: B → OwnsL kv A → kv.length ≤ A.length → OwnsL (putK kv (.inr x.1) (.str x.2)) (A ++ [x]) ∧ (putK kv (.inr x.1) (.str x.2)).length ≤ (A ++ [x]).length ∧ kv.length < sizeLine := fun A x B kv e ow kl => by
      have l1 := bigP
      rw [e, List.length_append, List.length_cons] at l1
      refine ⟨OwnsL.put ow fun y hy z => ?_, ?_, by omega⟩
      · rw [e, List.map_append, List.map_cons] at ndP
        exact (List.nodup_append.mp ndP).2.2 y.1 (List.mem_map_of_mem hy) x.1 List.mem_cons_self z
      · have z := length_putK kv (.inr x.1) (V.str x.2)
        rw [List.length_append]
        exact Nat.le_trans z (Nat.add_le_add_right kl 1)
    refine ⟨lh, rfl, ⟨_, SqL.of (s0 _ _ hlh)⟩, for_list (xs := vh) (PvC p lh dh O hs H) ⟨[], none, none, none, none, rfl, upd_same, fun x hx => by simp [pairsOf] at hx, Nat.zero_le _, s0⟩ (fun i σ H' _ hz20 => by obtain ⟨_, _, _, _, _, _, _, _, _, s⟩ := hz20; exact SqL.of (s _ _ hlh)) (fun i x σ H' hx hz21 => ?_) (fun σ H1 hz22 => ?_)⟩
    · refine hideP fun Rz0 hRz0 => ?_
      obtain ⟨kv, o4, o5, o6, o7, eσ, eO, ow, kl, s⟩ := hz21
      subst hRz0
      subst eσ
      obtain ⟨hh, hhi, ha⟩ := paired_getL ph hx
      have gd := gh hh (List.mem_of_getElem? hhi)
      refine hideP fun Rz0 hRz0 => ?_
      obtain ⟨a, b, ez30, ga, c, vr, ez31, gc, pr⟩ := ha
      subst hRz0
      subst ez30
      subst ez31
      refine ixTup (SqT.of (s _ _ ga)) (i := 4) (v := .ref c) (by rfl) ?_
      have e0 : pairsOf hs = pairsOf (hs.take i) ++ (pairsH hh ++ pairsOf (hs.drop (i + 1))) := by
        unfold pairsOf
        have e1 : hs = hs.take i ++ (hh :: hs.drop (i + 1)) := by
          obtain ⟨li, fi⟩ := List.getElem?_eq_some_iff.mp hhi
          rw [← fi, List.getElem_cons_drop, List.take_append_drop]
        conv => lhs; rw [e1]
        rw [List.flatMap_append, List.flatMap_cons]
      refine ⟨c, rfl, ⟨_, SqT.of (s _ _ gc)⟩, for_tup (xs := vr) (PvD p lh dh O a hs hh i H) ⟨kv, o5, o6, o7, rfl, eO, by simpa using ow, by simpa using kl, s⟩ (fun j σ H' _ hz23 => by obtain ⟨_, _, _, _, _, _, _, _, s⟩ := hz23; exact SqT.of (s _ _ gc)) (fun j y σ H' hy hz24 => ?_) (fun σ H' hz25 => ?_)⟩
      · refine hideP fun Rz0 hRz0 => ?_
        obtain ⟨kv, o5, o6, o7, eσ, eO, ow, kl, s⟩ := hz24
        subst hRz0
        subst eσ
        refine hideP fun Rz0 hRz0 => ?_
        obtain ⟨r, hr', c2, ws, ez32, g2, pr2⟩ := paired_getL pr hy
        subst hRz0
        subst ez32
        have e1 : pairsH hh = (hh.runs.take j).flatMap (pairsR hh.name) ++ (pairsR hh.name r ++ (hh.runs.drop (j + 1)).flatMap (pairsR hh.name)) := by
          rw [pairsH_flat]
          have e1 : hh.runs = hh.runs.take j ++ (r :: hh.runs.drop (j + 1)) := by
            obtain ⟨li, fi⟩ := List.getElem?_eq_some_iff.mp hr'
            rw [← fi, List.getElem_cons_drop, List.take_append_drop]
          conv => lhs; rw [e1]
          rw [List.flatMap_append, List.flatMap_cons]
        refine ⟨c2, rfl, ⟨_, SqT.of (s _ _ g2)⟩, for_tup (xs := ws) (PvE p lh dh O a c2 hs hh i j r H) ⟨kv, o6, o7, rfl, eO, by simpa using ow, by simpa using kl, s⟩ (fun t σ H' _ hz26 => by obtain ⟨_, _, _, _, _, _, _, s⟩ := hz26; exact SqT.of (s _ _ g2)) (fun t z σ H' hz hz27 => ?_) (fun σ H' hz28 => ?_)⟩
        · refine hideP fun Rz0 hRz0 => ?_
          obtain ⟨kv, o6, o7, eσ, eO, ow, kl, s⟩ := hz27
          subst hRz0
          subst eσ
          refine hideP fun Rz0 hRz0 => ?_
          obtain ⟨rr, hrr, ra1, ez33, ra2⟩ := paired_getL pr2 hz
          subst hRz0
          subst ez33
          have hp' : (pairsR hh.name r)[t]? = some (rr.1, hh.name) := by unfold pairsR; rw [List.getElem?_map, hrr]; rfl
          refine ⟨ra1, _, rfl, SqT.of (s _ _ ra2), rfl, _, _, rfl, _, _, rfl, rfl, ?_⟩
          refine ixTup (SqT.of (s _ _ ga)) (i := 0) (v := .str hh.name) (by rfl) ?_
          have e2 : pairsR hh.name r = (pairsR hh.name r).take t ++ ((rr.1, hh.name) :: (pairsR hh.name r).drop (t + 1)) := by
            obtain ⟨li, fi⟩ := List.getElem?_eq_some_iff.mp hp'
            rw [← fi, List.getElem_cons_drop, List.take_append_drop]
          obtain ⟨w1, w2, w3⟩ := putOk (pairsOf (hs.take i) ++ (hh.runs.take j).flatMap (pairsR hh.name) ++ (pairsR hh.name r).take t) (rr.1, hh.name) ((pairsR hh.name r).drop (t + 1) ++ ((hh.runs.drop (j + 1)).flatMap (pairsR hh.name) ++ pairsOf (hs.drop (i + 1)))) kv (by
            rw [e0, e1]
            conv => lhs; rw [e2]
            simp only [List.append_assoc, List.cons_append]) ow kl
          refine ⟨O, _, rfl, DPut.k (k := Sum.inr rr.1) eO w3, ?_⟩
          refine ⟨_, _, _, rfl, upd_same, ?_, ?_, fun b' o' e' => by rw [upd_ne (ne_of_none e' hO)]; exact s _ _ e'⟩
          · rw [List.take_add_one, hp', ← List.append_assoc]; exact w1
          · rw [List.take_add_one, hp', ← List.append_assoc]; exact w2
        · refine hideP fun Rz0 hRz0 => ?_
          obtain ⟨kv, o6, o7, eσ, eO, ow, kl, s⟩ := hz28
          subst hRz0
          subst eσ
          have l2 := pr2.length
          have e2 : (pairsR hh.name r).take ws.length = pairsR hh.name r := List.take_of_length_le (by unfold pairsR; rw [List.length_map]; omega)
          rw [e2] at ow kl
          refine ⟨kv, _, _, _, rfl, eO, ?_, ?_, s⟩
          · rw [List.take_add_one, hr', List.flatMap_append]; simpa using ow
          · rw [List.take_add_one, hr', List.flatMap_append]; simpa using kl
      · refine hideP fun Rz0 hRz0 => ?_
        obtain ⟨kv, o5, o6, o7, eσ, eO, ow, kl, s⟩ := hz25
        subst hRz0
        subst eσ
        rw [pr.length, List.take_length, ← pairsH_flat] at ow kl
        have e2 : pairsOf (hs.take (i + 1)) = pairsOf (hs.take i) ++ pairsH hh := by
          unfold pairsOf
          rw [List.take_add_one, hhi, List.flatMap_append]
          simp
        exact ⟨kv, _, _, _, _, rfl, eO, by rw [e2]; exact ow, by rw [e2]; exact kl, s⟩
    · refine hideP fun Rz0 hRz0 => ?_
      obtain ⟨kvo, o4, o5, o6, o7, eσ, eO, ow, kl, s1⟩ := hz22
      subst hRz0
      subst eσ
      rw [ph.length, List.take_length] at ow kl
      -- rows_here = sorted(hidden)
      refine ⟨dh, kvs, namesOf hs, rfl, s1 _ _ hdh, keys, by omega, fun l8 ss hl8 pm so => ?_⟩
      have s2 : Same H1 (upd H1 l8 (.lst (ss.map V.str))) := (Same.refl H1).upd hl8
      generalize eH2 : upd H1 l8 (.lst (ss.map V.str)) = H2 at s2
      have h8 : H2 l8 = some (.lst (ss.map V.str)) := by rw [← eH2]; exact upd_same
      have sH : Same H H2 := s1.trans s2
      have hp2 : PackAt H2 p := by obtain ⟨n, e, n0⟩ := hp; exact ⟨n, sH _ _ e, n0⟩
      refine fun F hF => ?_
      have nF : F ≠ p := fun z => by obtain ⟨n, e, _⟩ := hp2; rw [← z, hF] at e; cases e
      have n8 : l8 ≠ p := fun z => by
        obtain ⟨n, e, _⟩ := hp2
        rw [← z, h8] at e
        cases ss with
        | nil => cases e
        | cons s ss => cases e
      have nO : O ≠ p := fun z => by obtain ⟨n, e, _⟩ := hp2; rw [← z, s2 _ _ eO] at e; cases e
      have lss : ss.length = (namesOf hs).length := pm.length_eq
      have memS : ∀ x ∈ ss, x ∈ namesOf hs := fun x hx => pm.mem_iff.mp hx
      refine ⟨p, 7, rfl, hp2.new hF, by decide, by decide, fun n7 H3 n7a n7b hp3 s3 => ?_⟩
      have SB3 : SameB p H2 H3 := ((SameB.of (Same.refl H2)).new hF).trans s3
      refine ⟨n7, rfl, by omega, by omega, for_range (lo := 0) (n := n7.toNat) (PvF p lh dh O l8 F hs H2) ⟨[], _, _, _, _, _, _, _, _, _, _, rfl, hp3, SB3, s3 F _ nF upd_same, Nat.zero_le _, fun x hx => by simp at hx⟩ (fun i σ H' hi hz29 => ?_) (fun σ H' hz30 => ?_)⟩
      · refine hideP fun Rz0 hRz0 => ?_
        obtain ⟨kf, o4, o5, o6, o7, o10, o11, o12, o13, o14, o15, eσ, pk, sb, eF, kl, fo⟩ := hz29
        subst hRz0
        subst eσ
        refine ⟨l8, _, rfl, .inl (SqL.of (sb l8 _ n8 h8)), ?_⟩
        refine ite2 (fun c1 => ?_) (fun c1 => ⟨kf, _, _, _, _, _, _, _, _, _, _, rfl, pk, sb, eF, Nat.le_succ_of_le kl, fo⟩)
        have many : 1 < ss.length := by
          have z : (1 : Int) < ((ss.map V.str).length : Int) := of_decide_eq_true c1
          rw [List.length_map] at z; omega
        have pick : ∀ d : Int, 0 ≤ d → d < ((ss.map V.str).length : Int) → ∃ x, x ∈ ss ∧ atI (ss.map V.str) d = some (.str x) := fun d d0 d1 => by
          obtain ⟨n, rfl⟩ := Int.eq_ofNat_of_zero_le d0
          rw [List.length_map] at d1
          have hn : n < ss.length := by omega
          exact ⟨ss[n], List.getElem_mem hn, atI_nat (by rw [List.getElem?_map, List.getElem?_eq_getElem hn]; rfl)⟩
        have lenI : (0 : Int) < ((ss.map V.str).length : Int) ∧ ((ss.map V.str).length : Int) < 1073741824 := by rw [List.length_map]; omega
        refine asg_i fun W1 hW1 => ?_
        refine ⟨l8, _, rfl, .inl (SqL.of (sb l8 _ n8 h8)), ?_⟩
        refine ⟨p, _, rfl, pk, lenI.1, lenI.2, fun d1 Ha d1a d1b pka sa => ?_⟩
        have sba := sb.trans sa
        obtain ⟨one, m1, e1⟩ := pick d1 d1a d1b
        refine ixAt (sba l8 _ n8 h8) e1 ?_
        show W1 _ _
        subst hW1
        refine asg_i fun W2 hW2 => ?_
        refine ⟨l8, _, rfl, .inl (SqL.of (sba l8 _ n8 h8)), ?_⟩
        refine ⟨p, _, rfl, pka, lenI.1, lenI.2, fun d2 Hb d2a d2b pkb sb2 => ?_⟩
        have sbb := sba.trans sb2
        obtain ⟨other, m2, e2⟩ := pick d2 d2a d2b
        refine ixAt (sbb l8 _ n8 h8) e2 ?_
        show W2 _ _
        subst hW2
        refine asg_i fun W3 hW3 => ?_
        obtain ⟨g2, eg2⟩ := vals other (memS _ m2)
        obtain ⟨g1, eg1⟩ := vals one (memS _ m1)
        have hdb : Hb dh = some (.dK kvs) := sbb dh _ ndh (sH _ _ hdh)
        refine ⟨dh, _, rfl, eg2 ▸ DGet.k (k := Sum.inr other) hdb, ?_⟩
        refine ⟨dh, _, rfl, eg1 ▸ DGet.k (k := Sum.inr one) hdb, ?_⟩
        show W3 _ _
        subst hW3
        refine asg_i fun W4 hW4 => ?_
        refine ⟨p, 9, rfl, pkb, by decide, by decide, fun sk Hc sk0 sk1 pkc sc => ?_⟩
        show W4 _ _
        subst hW4
        have sbc := sbb.trans sc
        have eFc : Hc F = some (.dT kf) := (sa.trans (sb2.trans sc)) F _ nF eF
        have foc : FoundOk hs Hc kf := fun kv hkv => by
          refine hideP fun Rz0 hRz0 => ?_
          obtain ⟨l, w1, w2, w3⟩ := fo kv hkv
          subst hRz0
          exact ⟨l, w1, w2.ts (SameB.tups pk (sa.trans (sb2.trans sc))), w3⟩
        refine hideP fun Rz0 hRz0 => ?_
        obtain ⟨hh1, q1, q2, q3⟩ := owner_of ow (memS _ m1)
        subst hRz0
        refine hideP fun Rz0 hRz0 => ?_
        obtain ⟨hh2, r1, r2, r3⟩ := owner_of ow (memS _ m2)
        subst hRz0
        have hOc : Hc O = some (.dK kvo) := sbc O _ nO (s2 _ _ eO)
        refine ⟨O, _, rfl, q3 ▸ DGet.k (k := Sum.inr one) hOc, ?_⟩
        refine ⟨O, _, rfl, r3 ▸ DGet.k (k := Sum.inr other) hOc, ?_⟩
        have skip : ∀ (σ : St), (∃ o4 o5 o6 o7 o10 o11 o12 o13 o14 o15 : Option V, σ = [some (.ref p), some (.ref lh), some (.ref dh), some (.ref O), o4, o5, o6, o7, some (.ref l8), some (.ref F), o10, o11, o12, o13, o14, o15]) → ∃ (kf : List (List Key × V)) (o4 o5 o6 o7 o10 o11 o12 o13 o14 o15 : Option V), σ = [some (.ref p), some (.ref lh), some (.ref dh), some (.ref O), o4, o5, o6, o7, some (.ref l8), some (.ref F), o10, o11, o12, o13, o14, o15] ∧ PackAt Hc p ∧ SameB p H2 Hc ∧ Hc F = some (.dT kf) ∧ kf.length ≤ i + 1 ∧ FoundOk hs Hc kf := fun σ ⟨a4, a5, a6, a7, a10, a11, a12, a13, a14, a15, e⟩ => ⟨kf, a4, a5, a6, a7, a10, a11, a12, a13, a14, a15, e, pkc, sbc, eFc, Nat.le_succ_of_le kl, foc⟩
        refine ite2 (fun c2 => ?_) (fun c2 => skip _ ⟨_, _, _, _, _, _, _, _, _, _, rfl⟩)
        have hne : hh1.name ≠ hh2.name := fun z => by
          rw [decide_eq_true z] at c2
          cases c2
        refine ite2 (fun c3 => ?_) (fun c3 => skip _ ⟨_, _, _, _, _, _, _, _, _, _, rfl⟩)
        have gap0 : 0 < g2 - g1 := of_decide_eq_true c3
        refine asg_i fun W5 hW5 => ?_
        refine ⟨by show 3 ≤ sizeLine; omega, fun l3 hl3 => ?_⟩
        have nl3 : l3 ≠ p := fun z => by obtain ⟨n, e, _⟩ := pkc; rw [← z, hl3] at e; cases e
        refine ⟨p, 3, rfl, pkc.new hl3, by decide, by decide, fun d3 Hd d3a d3b pkd sd => ?_⟩
        have scd : SameB p Hc Hd := ((SameB.of (Same.refl Hc)).new hl3).trans sd
        obtain ⟨mo, emo, hmo⟩ : ∃ mo : Option Int, atI [V.non, .int (g2 - g1), .int (g2 - g1 + sk)] d3 = some (mostV mo) ∧ ∀ m, mo = some m → g2 - g1 ≤ m := by
          obtain ⟨n, rfl⟩ := Int.eq_ofNat_of_zero_le d3a
          match n, d3b with
          | 0, _ => exact ⟨none, rfl, fun m e => nomatch e⟩
          | 1, _ => exact ⟨some (g2 - g1), rfl, fun m e => by cases e; exact Int.le_refl _⟩
          | 2, _ => exact ⟨some (g2 - g1 + sk), rfl, fun m e => by cases e; omega⟩
          | n + 3, h => exact absurd h (by omega)
        refine ixAt (sd l3 _ nl3 upd_same) emo ?_
        show W5 _ _
        subst hW5
        refine ⟨1, g2 - g1 - sk, rfl, ?_⟩
        obtain ⟨lst, elst, hl1, hl2⟩ : ∃ lst : Int, lst = (if g2 - g1 - sk > 1 then g2 - g1 - sk else 1) ∧ 1 ≤ lst ∧ lst ≤ g2 - g1 := ⟨_, rfl, by split <;> omega, by split <;> omega⟩
        rw [← elst]
        refine ⟨by show 4 ≤ sizeLine; omega, fun t1 ht1 => ?_⟩
        refine ⟨by show 2 ≤ sizeLine; omega, fun t2 ht2 => ?_⟩
        have eFd : Hd F = some (.dT kf) := scd F _ nF eFc
        have eF1 : upd Hd t1 (.tup [.str one, .str other, .int lst, mostV mo]) F = some (.dT kf) := (upd_ne (ne_of_none eFd ht1)).trans eFd
        have eF2 : upd (upd Hd t1 (.tup [.str one, .str other, .int lst, mostV mo])) t2 (.tup [.str one, .str other]) F = some (.dT kf) := (upd_ne (ne_of_none eF1 ht2)).trans eF1
        refine ⟨F, _, rfl, DPut.t (k := kP (one, other)) eF2 upd_same (by omega), ?_⟩
        have tt : Tups Hc (upd (upd (upd Hd t1 (.tup [.str one, .str other, .int lst, mostV mo])) t2 (.tup [.str one, .str other])) F (.dT (putK kf (kP (one, other)) (.ref t1)))) := (((SameB.tups pkc scd).new ht1).new ht2).put eF2 (fun _ z => nomatch z)
        have et1 : upd (upd (upd Hd t1 (.tup [.str one, .str other, .int lst, mostV mo])) t2 (.tup [.str one, .str other])) F (.dT (putK kf (kP (one, other)) (.ref t1))) t1 = some (.tup [.str one, .str other, .int lst, mostV mo]) := by
          rw [upd_ne (ne_of_none eFd ht1).symm, upd_ne (ne_of_none upd_same ht2)]; exact upd_same
        refine ⟨_, _, _, _, _, _, _, _, _, _, _, rfl, ((pkd.new ht1).new ht2).put nF, fun b o hb e => ?_, upd_same, ?_, fun kv hkv => ?_⟩
        · have z1 := (sbc.trans scd) b o hb e
          rw [upd_ne (ne_of_none e hF)]
          exact (((SameB.of (Same.refl Hd)).new ht1).new ht2) b o hb z1
        · exact Nat.le_trans (length_putK kf (kP (one, other)) (.ref t1)) (Nat.add_le_add_right kl 1)
        · rcases mem_putK hkv with z | z
          · subst z
            exact ⟨((one, other), lst, mo), rfl, ⟨t1, rfl, et1⟩, names_good gh (memS _ m1), names_good gh (memS _ m2), hl1, fun m e => by have := hmo m e; show lst ≤ m; omega, hh1, q1, hh2, r1, q2, r2, hne⟩
          · refine hideP fun Rz0 hRz0 => ?_
            obtain ⟨l, w1, w2, w3⟩ := foc kv z
            subst hRz0
            exact ⟨l, w1, w2.ts tt, w3⟩
      · refine hideP fun Rz0 hRz0 => ?_
        obtain ⟨kf, o4, o5, o6, o7, o10, o11, o12, o13, o14, o15, eσ, pk, sb, eF, kl, fo⟩ := hz30
        subst hRz0
        subst eσ
        obtain ⟨ks, ek, lk⟩ := fo.keys
        refine ⟨F, kf, ks, rfl, eF, ek, by omega, fun l9 as ks' hl9 pm' pw la ha => ?_⟩
        have lks : ks'.length = ks.length := pm'.length_eq
        have s9 : Same H' (upd H' l9 (.lst (as.map V.ref))) := (Same.refl H').upd hl9
        generalize eH9 : upd H' l9 (.lst (as.map V.ref)) = H9 at s9
        have h9 : H9 l9 = some (.lst (as.map V.ref)) := by rw [← eH9]; exact upd_same
        refine ⟨l9, rfl, ⟨_, SqL.of h9⟩, fun D hD => comp_list (xs := as.map V.ref) (fun i H'' => ∃ (zs : List V) (ls : List Letter), Grow H9 H'' D zs ∧ Paired (LetterAt H9) zs ls ∧ ls.map Prod.fst = ks'.take i ∧ ∀ l ∈ ls, GoodLetter hs l) ⟨[], [], Grow.start hD, .nil, rfl, fun l hl => by simp at hl⟩ (fun i H'' _ hz31 => by obtain ⟨_, _, G, _⟩ := hz31; exact SqL.of (G.same _ _ h9)) (fun H'' hz32 => ?_) (fun i x H'' hx hi hz33 b => ?_)⟩
        · refine hideP fun Rz0 hRz0 => ?_
          obtain ⟨zs, ls, G, pz, el, gl⟩ := hz32
          subst hRz0
          have lx : ks'.take (as.map V.ref).length = ks' := List.take_of_length_le (by rw [List.length_map]; omega)
          rw [lx] at el
          have l1 := congrArg List.length el
          rw [List.length_map] at l1
          have l2 := pz.length
          refine ⟨D, zs, rfl, .inl ⟨SqL.of G.at', fun t ht => ?_⟩⟩
          refine q (.ref t) ls _ ⟨t, zs, rfl, upd_same, paired_mono (fun _ _ z => z.ts (G.same.tups.new ht)) pz⟩ ⟨by omega, gl, by rw [el]; exact pw⟩ ?_ ?_
          · obtain ⟨n, e, n0⟩ := pk
            exact (show PackAt H'' p from ⟨n, G.same _ _ (s9 _ _ e), n0⟩).new ht
          · exact (((SameB.of sH).trans (sb.trans (SameB.of (s9.trans G.same)))).new ht)
        · refine hideP fun Rz0 hRz0 => ?_
          obtain ⟨zs, ls, G, pz, el, gl⟩ := hz33
          subst hRz0
          rw [List.getElem?_map] at hx
          obtain ⟨a, ea, rfl⟩ : ∃ a, as[i]? = some a ∧ x = V.ref a := by
            cases e : as[i]? with
            | none => rw [e] at hx; cases hx
            | some a => rw [e] at hx; exact ⟨a, rfl, (Option.some.inj hx).symm⟩
          have li : i < ks'.length := by rw [List.length_map] at hi; omega
          have eki : ks'[i]? = some ks'[i] := List.getElem?_eq_getElem li
          have hka : H' a = some (.tup ((kP ks'[i]).map kV)) := ha i a _ ea eki
          have mk : kP ks'[i] ∈ kf.map (·.1) := by
            rw [ek]
            exact List.mem_map_of_mem (pm'.mem_iff.mp (List.getElem_mem li))
          obtain ⟨v, ev, mv⟩ := valV_mem mk
          refine hideP fun Rz0 hRz0 => ?_
          obtain ⟨l, w1, w2, w3⟩ := fo _ mv
          subst hRz0
          have el1 : l.1 = ks'[i] := (kP_inj w1).symm
          have sg : Same H' H'' := s9.trans G.same
          refine ⟨F, v, rfl, ev ▸ DGet.t (k := kP ks'[i]) (sg _ _ eF) (sg _ _ hka), ?_⟩
          have l2 := pz.length
          have l1 := congrArg List.length el
          rw [List.length_map, List.length_take] at l1
          refine ⟨zs, G.at', by omega, nx hi ⟨zs ++ [v], ls ++ [l], G.put hD v, paired_app pz (.cons (w2.ts s9.tups) .nil), ?_, fun l' hl' => ?_⟩⟩
          · rw [List.map_append, el, List.take_add_one, eki]
            show _ ++ [l.1] = _ ++ [ks'[i]]
            rw [el1]
          · rcases List.mem_append.mp hl' with z | z
            · exact gl l' z
            · rw [List.mem_singleton.mp z]; exact w3
end
end K02
namespace K02
open PySem L2
noncomputable def nmL : List Str := ["me", "you", "abcdefgh", "z"]
theorem nm_good : ∀ s ∈ nmL, Good s := by
  have h : nmL.all (fun s => decide (1 ≤ s.length) && decide (s.length ≤ 8) && s.cps.toList.all low) = true := by decide +kernel
  intro s hs
  obtain ⟨h1, h2⟩ := Bool.and_eq_true_iff.mp (List.all_eq_true.mp h s hs)
  obtain ⟨h3, h4⟩ := Bool.and_eq_true_iff.mp h1
  exact ⟨of_decide_eq_true h3, of_decide_eq_true h4, fun c hc => List.all_eq_true.mp h2 c hc⟩
theorem nm_nodup : nmL.Nodup := by decide +kernel
theorem same_new {p : Addr} {H Ha Hb : Hp} (s : Same H Ha) (n : H p = none) (b : SameB p Ha Hb) : Same H Hb := fun c o e => b c o (fun z => by rw [z, n] at e; cases e) (s c o e)
theorem mergeK_app : ∀ (more kvs : List (Key × V)), (more.map (·.1)).Nodup → (∀ k ∈ more.map (·.1), k ∉ kvs.map (·.1)) → mergeK kvs more = kvs ++ more
  | [], kvs, _, _ => by rw [List.append_nil]; rfl
  | x :: r, kvs, nd, dj => by
    rw [List.map_cons] at nd dj
    have nd' := List.nodup_cons.mp nd
    show mergeK (putK kvs x.1 x.2) r = _
    rw [putK_new (dj x.1 List.mem_cons_self), mergeK_app r _ nd'.2, List.append_assoc]
    · rfl
    · intro k hk z
      rw [List.map_append] at z
      rcases List.mem_append.mp z with z | z
      · exact dj k (List.mem_cons_of_mem _ hk) z
      · have : k = x.1 := by simpa using z
        exact nd'.1 (by rw [← this]; exact hk)
theorem valV_app {kvs more : List (Key × V)} {k : Key} : valV (kvs ++ more) k = (valV kvs k).or (valV more k) := by
  unfold valV
  rw [List.find?_append]
  cases kvs.find? (fun kv => decide (kv.1 = k)) <;> rfl
theorem valV_none {kvs : List (Key × V)} {k : Key} (h : k ∉ kvs.map (·.1)) : valV kvs k = none := by
  cases e : valV kvs k with
  | none => rfl
  | some v => exact absurd (valV_in e) h
noncomputable def spMkLedger (K : PySem.W.Frag) : Sp := fun vs H Q _ => ∃ (a : Addr) (ns : List Int) (k : Int), vs = [.ref a, .int k] ∧ SqL K H a (ns.map V.int) ∧ (∀ n ∈ ns, Bits n) ∧ ns.length ≤ 63 ∧ 0 ≤ k ∧ k ≤ 100 ∧ ∀ (x : V) (hs : List House) (ls : List Letter) (H' : Hp), LedgerAt H' x hs ls → GoodHouses hs → GoodLetters hs ls → (∀ n ∈ namesOf hs, n ≠ qS) → Same H H' → Q x H'
noncomputable def spRows : Sp := fun vs H Q _ => ∃ (x : V) (hs : List House) (ls : List Letter), vs = [x] ∧ LedgerAt H x hs ls ∧ GoodHouses hs ∧ ∀ (l : Addr) (ss : List Str) (H' : Hp), H' l = some (.lst (ss.map V.str)) → Same H H' → ss.Perm (namesOf hs) → PyProof.Rows.sortedS ss = true → Q (.ref l) H'
noncomputable def PvG (a hd ln lh dh : Addr) (k d4 : Int) (ss : List Str) (H3 : Hp) : Nat → St → Hp → Prop := fun i σ H' => ∃ (vh : List V) (hs : List House) (kvs : List (Key × V)) (m : Nat) (o8 o9 o10 o11 : Option V), σ = [some (.ref a), some (.int k), some (.ref hd), some (.ref ln), some (.int (1 + d4)), some (.ref lh), some (.ref dh), some (.int (10 - (m : Int))), o8, o9, o10, o11] ∧ H' lh = some (.lst vh) ∧ Paired (HouseAt H') vh hs ∧ H' dh = some (.dK kvs) ∧ kvs.map (·.1) = (namesOf hs).map Sum.inr ∧ (∀ n ∈ namesOf hs, ∃ i : Int, valV kvs (.inr n) = some (.int i)) ∧ namesOf hs = ss.take m ∧ m ≤ 10 ∧ hs.length = i ∧ hs.map House.name = nmL.take i ∧ (∀ h ∈ hs, GoodHouse h) ∧ Same H3 H'
section
variable {P : Program} {w : World} {K : PySem.W.Frag} {mg : Str → Option Value} {base : Heap} {t8 t6 tR tL : Tok}
theorem sc_mkledger : FnScope ["_law_script", "_law_k", "_law_head", "_law_names_here", "_law_amount", "_law_houses", "_law_hidden", "_law_room", "_law_j", "_law_rest", "_law_house_here", "_law_more"] ["_law_script", "_law_k"] (defScope sMkLedger) := ⟨rfl, rfl, rfl, by decide +kernel, rfl, by decide +kernel, by decide +kernel⟩
theorem ok_mkledger {f f_pack f_names f_take f_mkhouse f_mkletters : Addr} {fd fd_pack fd_names fd_take fd_mkhouse fd_mkletters : FuncData} (F : Fun K "_law_ledger" "_law_ledger" sMkLedger f fd) (T : Txt mg t8 t6 tR tL)
    (G_pack : FnOk P w K mg base CX0 2 f_pack fd_pack ["_law_script", "_law_k"] (spPack K)) (m_pack : mg "_law_pack" = some (.ref f_pack)) (k_pack : PySem.W.keepIn K (.ref f_pack) = true) (b_pack : Binds K fd_pack ["_law_script", "_law_k"] [])
    (G_names : FnOk P w K mg base CX0 2 f_names fd_names ["_law_pack_here", "_law_amount"] spNames) (m_names : mg "_law_names" = some (.ref f_names)) (k_names : PySem.W.keepIn K (.ref f_names) = true) (b_names : Binds K fd_names ["_law_pack_here", "_law_amount"] [])
    (G_take : FnOk P w K mg base CX0 2 f_take fd_take ["_law_pack_here", "_law_size"] spTake) (m_take : mg "_law_take" = some (.ref f_take)) (k_take : PySem.W.keepIn K (.ref f_take) = true) (b_take : Binds K fd_take ["_law_pack_here", "_law_size"] [])
    (G_mkhouse : FnOk P w K mg base CX0 2 f_mkhouse fd_mkhouse ["_law_pack_here", "_law_name", "_law_names_here", "_law_room"] spMkHouse) (m_mkhouse : mg "_law_house" = some (.ref f_mkhouse)) (k_mkhouse : PySem.W.keepIn K (.ref f_mkhouse) = true) (b_mkhouse : Binds K fd_mkhouse ["_law_pack_here", "_law_name", "_law_names_here", "_law_room"] [])
    (G_mkletters : FnOk P w K mg base CX0 2 f_mkletters fd_mkletters ["_law_pack_here", "_law_houses", "_law_hidden"] spMkLetters) (m_mkletters : mg "_law_letters" = some (.ref f_mkletters)) (k_mkletters : PySem.W.keepIn K (.ref f_mkletters) = true) (b_mkletters : Binds K fd_mkletters ["_law_pack_here", "_law_houses", "_law_hidden"] []) : FnOk P w K mg base CX0 3 f fd ["_law_script", "_law_k"] (spMkLedger K) := by
  refine F.ok sc_mkledger (fun vs H Q E h => ?_) (fun cdv A outer s H vs Q E hr h => ?_)
  · obtain ⟨a, ns, k, rfl, _⟩ := h
    rfl
  · obtain ⟨a, ns, k, rfl, ha, hb, hl, k0, k1, q⟩ := h
    have sl0 : sizeLine = 16777216 := sizeLine_eq
    refine ⟨_, (pss_cons (ps_set (i := 2) sc_mkledger.nd rfl (Or.inl rfl) (pe_call G_pack hr rfl m_pack k_pack b_pack .nil pass0 (pa_cons (pV 0) (pa_cons (pV 1) pa_nil)))) (pss_cons (ps_set (i := 3) sc_mkledger.nd rfl (Or.inl rfl) (pe_call G_names hr rfl m_names k_names b_names .nil pass0 (pa_cons (pV 2) (pa_cons pe_int pa_nil)))) (pss_cons (ps_set (i := 4) sc_mkledger.nd rfl (Or.inl rfl) (pe_op oAdd pe_int (pe_call G_take hr rfl m_take k_take b_take .nil pass0 (pa_cons (pV 2) (pa_cons pe_int pa_nil))))) (pss_cons (ps_set (i := 5) sc_mkledger.nd rfl (Or.inl rfl) (pe_lst pa_nil)) (pss_cons (ps_set (i := 6) sc_mkledger.nd rfl (Or.inl rfl) pe_dnewK) (pss_cons (ps_set (i := 7) sc_mkledger.nd rfl (Or.inl rfl) pe_int) (pss_cons (ps_for PassesOwn.never rfl (pi_range1 rfl T.range (pa_cons (pV 4) pa_nil)) (pg_name (i := 8) sc_mkledger.nd rfl (Or.inl rfl)) (pss_cons (ps_set (i := 9) sc_mkledger.nd rfl (Or.inl rfl) (pe_slice sl_list (pV 3) (poI (pe_callB call_lenD rfl T.len PySem.boot_len (pa_cons (pV 6) pa_nil))) (poI pe_int))) (pss_cons (ps_asg (pe_call G_mkhouse hr rfl m_mkhouse k_mkhouse b_mkhouse .nil pass0 (pa_cons (pe_call G_pack hr rfl m_pack k_pack b_pack .nil pass0 (pa_cons (pV 0) (pa_cons (pe_op oAdd (pe_op oAdd (pV 1) pe_int) (pV 8)) pa_nil))) (pa_cons (pe_ix iIx (pe_lst (pa_cons pe_str (pa_cons pe_str (pa_cons pe_str (pa_cons pe_str pa_nil))))) (pV 8) (fun _ _ => rfl)) (pa_cons (pV 9) (pa_cons (pV 7) pa_nil))))) (pg_tup rfl (pgs_cons (pg_name (i := 10) sc_mkledger.nd rfl (Or.inl rfl)) (pgs_cons (pg_name (i := 11) sc_mkledger.nd rfl (Or.inl rfl)) pgs_nil)))) (pss_cons (ps_expr (pe_bm PySem.F.plainAttrs_list PySem.F.slot_list_append PySem.F.type_list_append mt_append (pV 5) (pa_cons (pV 10) pa_nil))) (pss_cons (ps_expr (pe_bm PySem.F.plainAttrs_dict PySem.F.slot_dict_update PySem.F.type_dict_update mt_update (pV 6) (pa_cons (pV 11) pa_nil))) (pss_one (ps_set (i := 7) sc_mkledger.nd rfl (Or.inl rfl) (pe_op oSub pe_int (pe_callB call_lenD rfl T.len PySem.boot_len (pa_cons (pV 6) pa_nil)))))))))) (pss_one (ps_ret (pe_tup (pa_cons (pe_callTy call_tuple_of rfl T.tuple PyProof.Rows.boot_tuple (pa_cons (pV 5) pa_nil)) (pa_cons (pe_call G_mkletters hr rfl m_mkletters k_mkletters b_mkletters .nil pass0 (pa_cons (pe_call G_pack hr rfl m_pack k_pack b_pack .nil pass0 (pa_cons (pV 0) (pa_cons (pe_op oAdd (pV 1) pe_int) pa_nil))) (pa_cons (pV 5) (pa_cons (pV 6) pa_nil)))) pa_nil)))))))))))), ?_⟩
    refine asg_i fun U1 hU1 => ?_
    refine ⟨a, ns, k, rfl, ha, hb, hl, k0, by omega, fun hd H1 fhd pk1 s1 => ?_⟩
    show U1 _ _
    subst hU1
    refine asg_i fun U2 hU2 => ?_
    refine ⟨hd, rfl, pk1, fun ln ss H2 fln eln l12 nd gs nq pk2 sb2 => ?_⟩
    show U2 _ _
    subst hU2
    have S2 : Same H H2 := same_new s1 fhd sb2
    refine asg_i fun U3 hU3 => ?_
    refine ⟨hd, 4, rfl, pk2, by decide, by decide, fun d4 H3 d4a d4b pk3 sb3 => ?_⟩
    show U3 _ _
    subst hU3
    have S3 : Same H H3 := same_new S2 fhd sb3
    have nlnh : ln ≠ hd := fun z => by obtain ⟨n, e, _⟩ := pk1; rw [← z, fln] at e; cases e
    have eln3 : H3 ln = some (.lst (ss.map V.str)) := sb3 ln _ nlnh eln
    refine asg_i fun U4 hU4 => ?_
    refine ⟨Nat.zero_le _, fun lh flh => ?_⟩
    show U4 _ _
    subst hU4
    refine asg_i fun U5 hU5 => ?_
    refine fun dh fdh => ?_
    show U5 _ _
    subst hU5
    have S4 : Same H3 (upd (upd H3 lh (.lst [])) dh (.dK [])) := ((Same.refl H3).upd flh).upd fdh
    have nld : lh ≠ dh := ne_of_none upd_same fdh
    have eln4 := S4 _ _ eln3
    have e12 : ss.length = 12 := l12
    refine ⟨1 + d4, rfl, by omega, by omega, for_range (lo := 0) (n := (1 + d4).toNat) (PvG a hd ln lh dh k d4 ss H3) ⟨[], [], [], 0, none, none, none, none, rfl, (upd_ne nld).trans upd_same, .nil, upd_same, rfl, fun n hn => by simp [namesOf] at hn, rfl, by decide, rfl, rfl, fun h hh => by simp at hh, S4⟩ (fun i σ H' hi hz34 => ?_) (fun σ H' hz35 => ?_)⟩
    · refine hideP fun Rz0 hRz0 => ?_
      obtain ⟨vh, hs, kvs, m, o8, o9, o10, o11, eσ, elh, ph, edh, keys, vals, nms, m10, lhs, hnm, gh, S⟩ := hz34
      subst hRz0
      subst eσ
      have i4 : i < 4 := by omega
      have lkv : kvs.length = m := by
        have z := congrArg List.length keys
        rw [List.length_map, List.length_map, nms, List.length_take] at z
        omega
      have SH : Same H H' := S3.trans S
      refine ⟨dh, kvs, rfl, edh, ?_⟩
      refine ⟨ln, _, rfl, SqL.of (S _ _ eln3), fun lr flr => ?_⟩
      have ecut : cutV (ss.map V.str) (some (kvs.length : Int)) (some 10) = ((ss.take 10).drop m).map V.str := by
        unfold cutV
        rw [show (some 10 : Option Int) = some ((10 : Nat) : Int) from rfl, HT.sIx_nat, HT.sIx_nat, List.length_map, l12, lkv, Nat.min_eq_left (show m ≤ 12 by omega), Nat.min_eq_left (show 10 ≤ 12 by decide), ← List.map_drop, ← List.map_take, List.drop_take]
      rw [ecut]
      have s5 : Same H' (upd H' lr (.lst (((ss.take 10).drop m).map V.str))) := (Same.refl H').upd flr
      generalize eH5 : upd H' lr (.lst (((ss.take 10).drop m).map V.str)) = H5 at s5
      have elr : H5 lr = some (.lst (((ss.take 10).drop m).map V.str)) := by rw [← eH5]; exact upd_same
      have SH5 : Same H H5 := SH.trans s5
      refine ⟨a, ns, k + 1 + (0 + (i : Int)), rfl, sql_same SH5 ha, hb, hl, by omega, by omega, fun p H6 fp pk6 s6 => ?_⟩
      refine ⟨by show 4 ≤ sizeLine; omega, fun l4 fl4 => ?_⟩
      obtain ⟨nm, enm⟩ : ∃ nm, nmL[i]? = some nm := ⟨nmL[i], List.getElem?_eq_getElem (show i < 4 from i4)⟩
      have eat : atI (nmL.map V.str) (0 + (i : Int)) = some (.str nm) := by
        rw [Int.zero_add]
        exact atI_nat (by rw [List.getElem?_map, enm]; rfl)
      refine ixAt (xs := nmL.map V.str) upd_same eat ?_
      have gnm : Good nm := nm_good nm (List.mem_of_getElem? enm)
      have s7 : Same H5 (upd H6 l4 (.lst (nmL.map V.str))) := s6.upd fl4
      have pk7 : PackAt (upd H6 l4 (.lst (nmL.map V.str))) p := pk6.new fl4
      have ssl : ((ss.take 10).drop m).length = 10 - m := by rw [List.length_drop, List.length_take]; omega
      have sub : ((ss.take 10).drop m).Sublist ss := (List.drop_sublist _ _).trans (List.take_sublist _ _)
      refine ⟨p, nm, lr, (ss.take 10).drop m, 10 - (m : Int), rfl, pk7, gnm, s7 _ _ elr, by omega, sub.nodup nd, fun s hs' => gs s (sub.subset hs'), fun r d hv hh kv m' H8 fr fd er hat ghh ehn enames le rm ed keys2 vals2 pk8 sb8 => ?_⟩
      have fp5 : H5 p = none := fp
      have S8 : Same H5 H8 := same_new s7 fp5 sb8
      refine ⟨r, _, rfl, SqT.of er, rfl, _, _, rfl, _, _, rfl, rfl, ?_⟩
      have elh8 : H8 lh = some (.lst vh) := S8 _ _ (s5 _ _ elh)
      have edh8 : H8 dh = some (.dK kvs) := S8 _ _ (s5 _ _ edh)
      refine ⟨.inl ⟨rfl, _, SqL.of elh8⟩, ?_⟩
      have lv := ph.length
      refine ⟨lh, vh, _, rfl, rfl, elh8, by omega, ?_⟩
      have ndd : dh ≠ d := fun z => by
        rw [← z] at fd
        have w := (s7 _ _ (s5 _ _ edh))
        cases (fd.symm.trans w)
      have nlhdh : dh ≠ lh := fun z => by rw [z, elh8] at edh8; cases edh8
      have nlhd : d ≠ lh := fun z => by rw [z, elh8] at ed; cases ed
      have edh9 : upd H8 lh (.lst (vh ++ [hv])) dh = some (.dK kvs) := (upd_ne nlhdh).trans edh8
      have ed9 : upd H8 lh (.lst (vh ++ [hv])) d = some (.dK kv) := (upd_ne nlhd).trans ed
      have lkv2 : kv.length = m' := by
        have z := congrArg List.length keys2
        rw [List.length_map, List.length_map, List.length_take] at z
        omega
      refine ⟨.inr (.inr (.inl ⟨rfl, .inl ⟨_, edh9⟩⟩)), ?_⟩
      refine ⟨dh, d, kvs, kv, rfl, rfl, ndd, edh9, ed9, by omega, ?_⟩
      have mm : m + m' ≤ 10 := by omega
      have e10 : namesOf (hs ++ [hh]) = ss.take (m + m') := by
        have z : namesOf (hs ++ [hh]) = namesOf hs ++ namesH hh := by unfold namesOf; rw [List.flatMap_append]; simp
        rw [z, nms, enames, List.drop_take, List.take_take, List.take_add, Nat.min_eq_left (by omega)]
      have ndk : (ss.take (m + m')).Nodup := (List.take_sublist _ _).nodup nd
      have e10' : ss.take (m + m') = ss.take m ++ ((ss.take 10).drop m).take m' := by
        rw [← e10]
        unfold namesOf
        rw [List.flatMap_append]
        have z : hs.flatMap namesH = ss.take m := nms
        rw [z, ← enames]; simp
      have inj : ∀ l : List Str, l.Nodup → (l.map (Sum.inr : Str → Key)).Nodup := fun l hl => by
        rw [List.nodup_iff_pairwise_ne, List.pairwise_map]
        exact (List.nodup_iff_pairwise_ne.mp hl).imp fun h z => h (Sum.inr.inj z)
      have ndk2 := inj _ ndk
      rw [e10', List.map_append] at ndk2
      obtain ⟨nda, ndb, ndc⟩ := List.nodup_append.mp ndk2
      have emk : mergeK kvs kv = kvs ++ kv := mergeK_app kv kvs (by rw [keys2]; exact ndb) (fun x hx z => by
        rw [keys2] at hx
        rw [keys, nms] at z
        exact ndc x z x hx rfl)
      rw [emk]
      have tt : Tups H8 (upd (upd H8 lh (.lst (vh ++ [hv]))) dh (.dK (kvs ++ kv))) := ((Tups.refl H8).put elh8 (fun _ z => nomatch z)).put edh9 (fun _ z => nomatch z)
      refine ⟨dh, _, rfl, upd_same, ?_⟩
      refine ⟨vh ++ [hv], hs ++ [hh], kvs ++ kv, m + m', some (.int (0 + (i : Int))), some (.ref lr), some hv, some (.ref d), ?_, (upd_ne (Ne.symm nlhdh)).trans upd_same, ?_, upd_same, ?_, ?_, e10, mm, by rw [List.length_append, lhs]; rfl, ?_, ?_, ?_⟩
      · have el : (10 - ((kvs ++ kv).length : Int)) = 10 - ((m + m' : Nat) : Int) := by rw [List.length_append, lkv, lkv2]
        show [_, _, _, _, _, _, _, some (V.int (10 - ((kvs ++ kv).length : Int))), _, _, _, _] = _
        rw [el]
      · refine paired_app (paired_mono (fun _ _ z => (z.ts s5.tups).ts (S8.tups.trans tt)) ph) (.cons (hat.ts tt) .nil)
      · rw [List.map_append, keys, keys2, e10, nms, e10', List.map_append]
      · intro n hn
        rw [e10, e10'] at hn
        rw [valV_app]
        rcases List.mem_append.mp hn with z | z
        · obtain ⟨v, ev⟩ := vals n (by rw [nms]; exact z)
          exact ⟨v, by rw [ev]; rfl⟩
        · obtain ⟨v, ev⟩ := vals2 n z
          refine ⟨v, ?_⟩
          have no : valV kvs (.inr n) = none := valV_none (fun y => by
            rw [keys, nms] at y
            exact ndc (Sum.inr n) y (Sum.inr n) (List.mem_map_of_mem z) rfl)
          rw [no, ev]; rfl
      · rw [List.map_append, hnm, List.take_add_one, enm, ← ehn]; rfl
      · intro h hh'
        rcases List.mem_append.mp hh' with z | z
        · exact gh h z
        · rw [List.mem_singleton.mp z]; exact ghh
      · intro b o e
        have z := S8 _ _ (s5 _ _ (S _ _ e))
        have n1 : b ≠ lh := ne_of_none e flh
        have n2 : b ≠ dh := fun y => by
          rw [y] at e
          have := (upd_ne (o := .lst []) (Ne.symm nld)).trans e
          rw [fdh] at this; cases this
        rw [upd_ne n2, upd_ne n1]; exact z
    · refine hideP fun Rz0 hRz0 => ?_
      obtain ⟨vh, hs, kvs, m, o8, o9, o10, o11, eσ, elh, ph, edh, keys, vals, nms, m10, lhs, hnm, gh, S⟩ := hz35
      subst hRz0
      subst eσ
      have SH : Same H H' := S3.trans S
      have lv := ph.length
      have ln' : hs.length ≤ 4 := by omega
      refine ⟨lh, vh, rfl, .inl ⟨SqL.of elh, fun t1 ft1 => ?_⟩⟩
      have s5 : Same H' (upd H' t1 (.tup vh)) := (Same.refl H').upd ft1
      generalize eH5 : upd H' t1 (.tup vh) = H5 at s5
      have et1 : H5 t1 = some (.tup vh) := by rw [← eH5]; exact upd_same
      refine ⟨a, ns, k + 5, rfl, sql_same (SH.trans s5) ha, hb, hl, by omega, by omega, fun p H6 fp pk6 s6 => ?_⟩
      have s56 : Same H' H6 := s5.trans s6
      have ndn : (namesOf hs).Nodup := by rw [nms]; exact (List.take_sublist _ _).nodup nd
      have fewn : (namesOf hs).length ≤ 24 := by rw [nms, List.length_take]; omega
      refine ⟨p, lh, dh, vh, hs, kvs, rfl, pk6, s56 _ _ elh, paired_mono (fun _ _ z => z.ts s56.tups) ph, by omega, gh, ndn, fewn, s56 _ _ edh, keys, vals, fun x ls H7 lat gl pk7 sb7 => ?_⟩
      have S7 : Same H5 H7 := same_new s6 fp sb7
      refine ⟨by show 2 ≤ sizeLine; omega, fun t ft => ?_⟩
      have S7t : Same H5 (upd H7 t (.tup [.ref t1, x])) := S7.upd ft
      refine q (.ref t) hs ls _ ⟨t, .ref t1, x, rfl, upd_same, ⟨t1, vh, rfl, S7t _ _ et1, paired_mono (fun _ _ z => z.ts (s5.trans S7t).tups) ph⟩, lat.ts ((Tups.refl H7).new ft)⟩ ⟨by omega, by omega, gh, by rw [hnm]; exact (List.take_sublist _ _).nodup nm_nodup, ndn, fewn⟩ gl (fun n hn => nq n (by rw [nms] at hn; exact List.mem_of_mem_take hn)) (SH.trans (s5.trans S7t))
theorem sc_rows : FnScope ["_law_ledger_here", "_law_found", "_law_house_here", "_law_run"] ["_law_ledger_here"] (defScope sRows) := ⟨rfl, rfl, rfl, by decide +kernel, rfl, by decide +kernel, by decide +kernel⟩
theorem ok_rows {f : Addr} {fd : FuncData} (F : Fun K "_law_rows" "_law_rows" sRows f fd) (T : Txt mg t8 t6 tR tL) : FnOk P w K mg base CX0 1 f fd ["_law_ledger_here"] spRows := by
  refine F.ok sc_rows (fun vs H Q E h => ?_) (fun cdv A outer s H vs Q E hr h => ?_)
  · obtain ⟨x, hs, ls, rfl, _⟩ := h
    rfl
  · obtain ⟨x, hs, ls, rfl, ⟨a, y, z, rfl, ha, ⟨c, vh, rfl, hc, ph⟩, hL⟩, gh, q⟩ := h
    have sl0 : sizeLine = 16777216 := sizeLine_eq
    refine ⟨_, (pss_cons (ps_set (i := 1) sc_rows.nd rfl (Or.inl rfl) (pe_lst pa_nil)) (pss_cons (ps_for PassesOwn.never rfl (pi_tup (pe_ix iIxT (pV 0) pe_int (fun _ _ => rfl))) (pg_name (i := 2) sc_rows.nd rfl (Or.inl rfl)) (pss_one (ps_for PassesOwn.never rfl (pi_tup (pe_ix iIxT (pV 2) pe_int (fun _ _ => rfl))) (pg_name (i := 3) sc_rows.nd rfl (Or.inl rfl)) (pss_one (ps_expr (pe_bm PySem.F.plainAttrs_list PySem.F.slot_list_extend PySem.F.type_list_extend mt_extend (pV 1) (pa_cons (pe_comp (scX := defScope sRows) (own := ["_law_row", "_law_reading"]) (cap := []) (ix := []) rfl rfl ⟨rfl, by decide +kernel, by decide +kernel, by decide +kernel, rfl, by decide +kernel⟩ (pi_tup (pV 3)) (fun b => (pg_tup rfl (pgs_cons (pg_name (i := 0) (show (["_law_row", "_law_reading"] : List Str).Nodup by decide +kernel) rfl (Or.inl rfl)) (pgs_cons (pg_name (i := 1) (show (["_law_row", "_law_reading"] : List Str).Nodup by decide +kernel) rfl (Or.inl rfl)) pgs_nil)))) (fun b => pif_nil) (fun b => (pV 0))) pa_nil))))))) (pss_one (ps_ret (pe_callB call_sorted rfl T.sorted PyProof.Rows.boot_sorted (pa_cons (pV 1) pa_nil)))))), ?_⟩
    refine ⟨Nat.zero_le _, fun D hD => ?_⟩
    have s0 : Same H (upd H D (.lst [])) := (Same.refl H).upd hD
    refine ixTup (SqT.of (s0 _ _ ha)) (i := 0) (v := .ref c) (by rfl) ?_
    refine ⟨c, rfl, ⟨_, SqT.of (s0 _ _ hc)⟩, for_tup (xs := vh) (fun i σ H' => ∃ o2 o3 : Option V, σ = [some (.ref a), some (.ref D), o2, o3] ∧ Grow H H' D (((hs.take i).flatMap namesH).map V.str)) ⟨none, none, rfl, Grow.start hD⟩ (fun i σ H' _ hz10 => by obtain ⟨_, _, _, G⟩ := hz10; exact SqT.of (G.same _ _ hc)) (fun i x σ H' hx hz11 => ?_) (fun σ H' hz12 => ?_)⟩
    · refine hideP fun Rz0 hRz0 => ?_
      obtain ⟨o2, o3, eσ, G⟩ := hz11
      subst hRz0
      subst eσ
      refine hideP fun Rz0 hRz0 => ?_
      obtain ⟨hh, hhi, b, d, ez34, gb, c2, vr, ez35, gc, pr⟩ := paired_getL ph hx
      subst hRz0
      subst ez34
      subst ez35
      refine ixTup (SqT.of (G.same _ _ gb)) (i := 4) (v := .ref c2) (by rfl) ?_
      refine ⟨c2, rfl, ⟨_, SqT.of (G.same _ _ gc)⟩, for_tup (xs := vr) (fun j σ H' => ∃ o3 : Option V, σ = [some (.ref a), some (.ref D), some (.ref b), o3] ∧ Grow H H' D (((hs.take i).flatMap namesH ++ (hh.runs.take j).flatten.map Prod.fst).map V.str)) ⟨o3, rfl, by simpa using G⟩ (fun j σ H' _ hz13 => by obtain ⟨_, _, G⟩ := hz13; exact SqT.of (G.same _ _ gc)) (fun j y σ H' hy hz14 => ?_) (fun σ H' hz15 => ?_)⟩
      · obtain ⟨o3, eσ, G⟩ := hz14
        subst eσ
        refine hideP fun Rz0 hRz0 => ?_
        obtain ⟨r, hri, c3, ws, ez36, gw, pw⟩ := paired_getL pr hy
        subst hRz0
        subst ez36
        have gd := gh.all hh (List.mem_of_getElem? hhi)
        have gr := gd.runs r (List.mem_of_getElem? hri)
        have few := gr.few
        have lw := pw.length
        refine ⟨.inl ⟨rfl, _, SqL.of G.at'⟩, ?_⟩
        refine ⟨c3, rfl, ⟨_, SqT.of (G.same _ _ gw)⟩, fun E' hE => comp_map (xs := ws) (ys := r.map fun x => V.str x.1) hE (SqT.of (G.same _ _ gw)) (by omega) (by rw [List.length_map]; omega) (fun t x H2 hx s2 b R hR => ?_) (fun H2 s2 e2 => ?_)⟩
        · obtain ⟨rr, hrr, ra⟩ := paired_getL pw hx
          obtain ⟨a1, rfl, g1⟩ := ra.ts (G.same.trans s2).tups
          refine ⟨a1, _, rfl, SqT.of g1, rfl, _, _, rfl, _, _, rfl, rfl, ?_⟩
          exact hR H2 _ (by rw [List.getElem?_map, hrr]; rfl) (Same.refl _)
        · have G2 := G.more s2
          have total : ((hs.take i).flatMap namesH ++ (hh.runs.take j).flatten.map Prod.fst).length + r.length ≤ 24 := by
            have z := gh.few
            have e1 : hs = hs.take i ++ (hh :: hs.drop (i + 1)) := by
              obtain ⟨li, fi⟩ := List.getElem?_eq_some_iff.mp hhi
              rw [← fi, List.getElem_cons_drop, List.take_append_drop]
            have e2 : hh.runs = hh.runs.take j ++ (r :: hh.runs.drop (j + 1)) := by
              obtain ⟨li, fi⟩ := List.getElem?_eq_some_iff.mp hri
              rw [← fi, List.getElem_cons_drop, List.take_append_drop]
            have e3 : namesOf hs = (hs.take i).flatMap namesH ++ (namesH hh ++ (hs.drop (i + 1)).flatMap namesH) := by
              unfold namesOf
              conv => lhs; rw [e1]
              rw [List.flatMap_append, List.flatMap_cons]
            have e4 : namesH hh = ((hh.runs.take j).flatten ++ (r ++ (hh.runs.drop (j + 1)).flatten)).map Prod.fst := by
              unfold namesH rowsH
              conv => lhs; rw [e2]
              rw [List.flatten_append, List.flatten_cons]
            rw [e3, e4] at z
            simp only [List.length_append, List.length_map] at z ⊢
            omega
          refine ⟨D, E', _, _, rfl, rfl, G2.at', e2, by rw [List.length_map, List.length_map]; omega, ?_⟩
          refine ⟨_, rfl, ⟨?_, fun b o e => by rw [upd_ne (ne_of_none e hD)]; exact G2.same _ _ e⟩⟩
          rw [upd_same, List.take_add_one, hri, List.flatten_append]
          simp
      · obtain ⟨o3, eσ, G⟩ := hz15
        subst eσ
        refine ⟨_, _, rfl, ?_⟩
        rw [pr.length, List.take_length] at G
        rw [List.take_add_one, hhi, List.flatMap_append]
        simpa [namesH, rowsH] using G
    · refine hideP fun Rz0 hRz0 => ?_
      obtain ⟨o2, o3, eσ, G⟩ := hz12
      subst hRz0
      subst eσ
      have e := G.at'
      rw [ph.length, List.take_length] at e
      have few := gh.few
      refine ⟨D, namesOf hs, rfl, SqL.of e, by omega, fun l ss hl pm so => ?_⟩
      exact q l ss _ upd_same (G.same.upd hl) pm so
end
end K02
namespace K02
open PySem L2
noncomputable def rowDa (r : Row) : Da := .tup [.str r.1, .int r.2]
noncomputable def runDa (rs : List Row) : Da := .tup (rs.map rowDa)
noncomputable def runsDa (rs : List (List Row)) : Da := .tup (rs.map runDa)
noncomputable def houseDa (h : House) : Da := .tup [.str h.name, .int h.low, .int h.high, .int h.drift, runsDa h.runs]
noncomputable def housesDa (hs : List House) : Da := .tup (hs.map houseDa)
noncomputable def mostDa : Option Int → Da
  | none => .non
  | some i => .int i
noncomputable def letterDa (l : Letter) : Da := .tup [.str l.1.1, .str l.1.2, .int l.2.1, mostDa l.2.2]
noncomputable def lettersDa (ls : List Letter) : Da := .tup (ls.map letterDa)
theorem Good.da {H : Hp} {z : Str} (g : Good z) : DaAt H (.str z) (.str z) := .str z (by have := g.hi; have sl0 : sizeLine = 16777216 := sizeLine_eq; omega)
theorem paired_da {α : Type} {H : Hp} {R : V → α → Prop} {f : α → Da} {vs : List V} {xs : List α} (p : Paired R vs xs) (h : ∀ v x, x ∈ xs → R v x → DaAt H v (f x)) : DaAs H vs (xs.map f) := by
  induction p with
  | nil => exact .nil
  | cons r _ ih => exact .cons (h _ _ (List.mem_cons_self ..) r) (ih fun v x hx => h v x (List.mem_cons_of_mem _ hx))
section
variable {H : Hp} {v : V}
theorem RowAt.da {r : Row} (h : RowAt H v r) (g : Good r.1) : DaAt H v (rowDa r) := by
  obtain ⟨a, rfl, e⟩ := h
  exact .tup e (show 2 ≤ 25 by decide) (.cons g.da (.cons (.int _) .nil))
theorem RunAt.da {r : List Row} (h : RunAt H v r) (g : GoodRun r) : DaAt H v (runDa r) := by
  obtain ⟨a, vs, rfl, e, p⟩ := h
  exact .tup e (by rw [p.length]; exact g.few) (paired_da p fun v x hx q => q.da (g.names x hx))
theorem RunsAt.da {rs : List (List Row)} (h : RunsAt H v rs) (few : rs.length ≤ 25) (g : ∀ r ∈ rs, GoodRun r) : DaAt H v (runsDa rs) := by
  obtain ⟨a, vs, rfl, e, p⟩ := h
  exact .tup e (by rw [p.length]; exact few) (paired_da p fun v x hx q => q.da (g x hx))
theorem HouseAt.da {h : House} (a : HouseAt H v h) (g : GoodHouse h) : DaAt H v (houseDa h) := by
  obtain ⟨a, b, rfl, e, p⟩ := a
  exact .tup e (show 5 ≤ 25 by decide) (.cons g.name.da (.cons (.int _) (.cons (.int _) (.cons (.int _) (.cons (p.da g.few g.runs) .nil)))))
theorem HousesAt.da {hs : List House} (a : HousesAt H v hs) (few : hs.length ≤ 25) (g : ∀ h ∈ hs, GoodHouse h) : DaAt H v (housesDa hs) := by
  obtain ⟨a, vs, rfl, e, p⟩ := a
  exact .tup e (by rw [p.length]; exact few) (paired_da p fun v x hx q => q.da (g x hx))
theorem most_da {m : Option Int} : DaAt H (mostV m) (mostDa m) := by
  cases m with
  | none => exact .non
  | some i => exact .int i
theorem LetterAt.da {l : Letter} (h : LetterAt H v l) (g1 : Good l.1.1) (g2 : Good l.1.2) : DaAt H v (letterDa l) := by
  obtain ⟨a, rfl, e⟩ := h
  exact .tup e (show 4 ≤ 25 by decide) (.cons g1.da (.cons g2.da (.cons (.int _) (.cons most_da .nil))))
theorem LettersAt.da {ls : List Letter} (h : LettersAt H v ls) (few : ls.length ≤ 25) (g : ∀ l ∈ ls, Good l.1.1 ∧ Good l.1.2) : DaAt H v (lettersDa ls) := by
  obtain ⟨a, vs, rfl, e, p⟩ := h
  exact .tup e (by rw [p.length]; exact few) (paired_da p fun v x hx q => q.da (g x hx).1 (g x hx).2)
end
theorem pairsL_of {α : Type} {R : α → α → Prop} : ∀ {l : List α}, l.Pairwise R → ∀ p ∈ pairsL l, R p.1 p.2
  | [], _, p, hp => by simp [pairsL] at hp
  | [x], _, p, hp => by simp [pairsL] at hp
  | x :: y :: l, h, p, hp => by
    have e : pairsL (x :: y :: l) = (x, y) :: pairsL (y :: l) := rfl
    rw [e] at hp
    rcases List.mem_cons.mp hp with z | z
    · rw [z]; exact (List.pairwise_cons.mp h).1 y (List.mem_cons_self ..)
    · exact pairsL_of (List.pairwise_cons.mp h).2 p z
theorem riseI_of {is : List Int} (h : is.Pairwise (· < ·)) : riseI is = true := List.all_eq_true.mpr fun p hp => decide_eq_true (pairsL_of h p hp)
theorem riseP_of {ks : List (Str × Str)} (h : ks.Pairwise (fun a b => plt a b = true)) : riseP ks = true := List.all_eq_true.mpr fun p hp => pairsL_of h p hp
theorem named_da {r : Row} (g : Good r.1) : namedD (rowDa r) = true := by
  show (isND (.str r.1) && isWD (.int r.2)) = true
  rw [show isND (.str r.1) = true from g.isN]
  rfl
theorem run_da {rs : List Row} (g : GoodRun rs) : runD (runDa rs) = true := by
  show (!(rs.map rowDa).isEmpty && ((rs.map rowDa).all namedD && riseI ((rs.map rowDa).map fun x => intD (sndD x)))) = true
  have h1 : (rs.map rowDa).isEmpty = false := by
    have := g.ne
    cases rs with
    | nil => exact absurd rfl this
    | cons x xs => rfl
  have h2 : (rs.map rowDa).all namedD = true := List.all_eq_true.mpr fun d hd => by
    obtain ⟨r, hr, rfl⟩ := List.mem_map.mp hd
    exact named_da (g.names r hr)
  have h3 : ((rs.map rowDa).map fun x => intD (sndD x)) = rs.map Prod.snd := by rw [List.map_map]; rfl
  rw [h1, h2, h3, riseI_of g.rise]
  rfl
theorem runs_da {rs : List (List Row)} (g : ∀ r ∈ rs, GoodRun r) : runsD (runsDa rs) = true := by
  show (rs.map runDa).all runD = true
  exact List.all_eq_true.mpr fun d hd => by
    obtain ⟨r, hr, rfl⟩ := List.mem_map.mp hd
    exact run_da (g r hr)
theorem clock_da {n : Str} {l h d : Int} (g : Good n) (hw : l ≤ h) (hd : 0 ≤ d) : clockD (.str n) (.int l) (.int h) (.int d) = true := by
  unfold clockD
  rw [show isND (.str n) = true from g.isN]
  show (true && ((true && (true && true)) && (decide (l ≤ h) && decide (0 ≤ d)))) = true
  rw [decide_eq_true hw, decide_eq_true hd]
  rfl
theorem house_da {h : House} (g : GoodHouse h) : houseD (houseDa h) = true := by
  show (clockD (.str h.name) (.int h.low) (.int h.high) (.int h.drift) && runsD (runsDa h.runs)) = true
  rw [clock_da g.name g.wide g.drift, runs_da g.runs]
  rfl
theorem runOf_da (r : List Row) : runOf (runDa r) = r := by
  show (r.map rowDa).map rowOf = r
  rw [List.map_map]
  exact List.map_id r
theorem houseOf_da (h : House) : houseOf (houseDa h) = h := by
  show House.mk h.name h.low h.high h.drift ((h.runs.map runDa).map runOf) = h
  rw [List.map_map, show runOf ∘ runDa = id from funext runOf_da, List.map_id]
theorem housesOf_da (hs : List House) : (hs.map houseDa).map houseOf = hs := by
  rw [List.map_map, show houseOf ∘ houseDa = id from funext houseOf_da, List.map_id]
theorem houses_da {hs : List House} (g : GoodHouses hs) : housesD (housesDa hs) = true := by
  show (decide (1 ≤ (hs.map houseDa).length) && (decide ((hs.map houseDa).length ≤ 6) && ((hs.map houseDa).all houseD && (decide (((hs.map houseDa).map houseOf).map House.name).Nodup && (decide (namesOf ((hs.map houseDa).map houseOf)).Nodup && decide ((namesOf ((hs.map houseDa).map houseOf)).length ≤ 24)))))) = true
  have h2 : (hs.map houseDa).all houseD = true := List.all_eq_true.mpr fun d hd => by
    obtain ⟨r, hr, rfl⟩ := List.mem_map.mp hd
    exact house_da (g.all r hr)
  rw [housesOf_da, h2, List.length_map, decide_eq_true g.lo, decide_eq_true g.hi, decide_eq_true g.names, decide_eq_true g.rows, decide_eq_true g.few]
  rfl
theorem letter_da {hs : List House} {l : Letter} (g : GoodLetter hs l) : letterD (letterDa l) = true := by
  obtain ⟨⟨s, t⟩, le, m⟩ := l
  have g1 := g.sent.isN
  have g2 := g.taken.isN
  have g3 := g.least
  cases m with
  | none => simp [letterDa, letterD, mostDa, mostD, isND, isWD, intD, g1, g2, g3]
  | some m =>
    have g4 := g.most m rfl
    simp [letterDa, letterD, mostDa, mostD, isND, isWD, intD, g1, g2, g3, g4]
theorem lookP_of {ps : List (Str × Str)} {n x : Str} (nd : (ps.map Prod.fst).Nodup) (h : (n, x) ∈ ps) : lookP ps n = some x := by
  unfold lookP
  induction ps with
  | nil => simp at h
  | cons p ps ih =>
    rw [List.map_cons, List.nodup_cons] at nd
    by_cases e : p.1 = n
    · rw [List.find?_cons_of_pos (by simp [e])]
      rcases List.mem_cons.mp h with z | z
      · rw [← z]; rfl
      · exact absurd (List.mem_map.mpr ⟨_, z, e.symm⟩) nd.1
    · rw [List.find?_cons_of_neg (by simp [e])]
      rcases List.mem_cons.mp h with z | z
      · rw [← z] at e; exact absurd rfl e
      · exact ih nd.2 z
theorem lookP_none {ps : List (Str × Str)} {n : Str} (h : n ∉ ps.map Prod.fst) : lookP ps n = none := by
  unfold lookP
  rw [List.find?_eq_none.mpr fun p hp => ?_]
  · rfl
  · intro e
    exact h (List.mem_map.mpr ⟨p, hp, of_decide_eq_true e⟩)
theorem owner {hs : List House} (nd : (namesOf hs).Nodup) {h : House} {n : Str} (hh : h ∈ hs) (hn : n ∈ namesH h) : lookP (pairsOf hs) n = some h.name := by
  refine lookP_of (by rw [pairsOf_fst]; exact nd) ?_
  obtain ⟨r, hr, e⟩ := List.mem_map.mp hn
  exact List.mem_flatMap.mpr ⟨h, hh, List.mem_map.mpr ⟨r, hr, by rw [e]⟩⟩
theorem letters_da {hs : List House} {ls : List Letter} (gh : GoodHouses hs) (g : GoodLetters hs ls) : lettersD hs (lettersDa ls) = true := by
  show (decide ((ls.map letterDa).length ≤ 24) && ((ls.map letterDa).all letterD && ((ls.map letterDa).all (ownOk hs) && riseP ((ls.map letterDa).map keyOf)))) = true
  have h2 : (ls.map letterDa).all letterD = true := List.all_eq_true.mpr fun d hd => by
    obtain ⟨r, hr, rfl⟩ := List.mem_map.mp hd
    exact letter_da (g.all r hr)
  have h3 : (ls.map letterDa).all (ownOk hs) = true := List.all_eq_true.mpr fun d hd => by
    obtain ⟨l, hr, rfl⟩ := List.mem_map.mp hd
    obtain ⟨h1, m1, h2, m2, n1, n2, ne⟩ := (g.all l hr).houses
    unfold ownOk
    rw [show (keyOf (letterDa l)).1 = l.1.1 from rfl, show (keyOf (letterDa l)).2 = l.1.2 from rfl, owner gh.rows m1 n1, owner gh.rows m2 n2]
    show (!decide (h1.name = h2.name)) = true
    rw [decide_eq_false ne]; rfl
  have h4 : (ls.map letterDa).map keyOf = ls.map Prod.fst := by rw [List.map_map]; rfl
  rw [h2, h3, h4, riseP_of g.rise, List.length_map, decide_eq_true g.few]
  rfl
theorem ledger_da {hs : List House} {ls : List Letter} (gh : GoodHouses hs) (g : GoodLetters hs ls) : ledgerD (.tup [housesDa hs, lettersDa ls]) = true := by
  show (housesD (housesDa hs) && lettersD ((hs.map houseDa).map houseOf) (lettersDa ls)) = true
  rw [housesOf_da, houses_da gh, letters_da gh g]
  rfl
theorem LedgerAt.da {H : Hp} {v : V} {hs : List House} {ls : List Letter} (h : LedgerAt H v hs ls) (gh : GoodHouses hs) (g : GoodLetters hs ls) : DaAt H v (.tup [housesDa hs, lettersDa ls]) := by
  obtain ⟨a, x, y, rfl, e, h1, h2⟩ := h
  exact .tup e (show 2 ≤ 25 by decide) (.cons (h1.da (by have := gh.hi; omega) gh.all) (.cons (h2.da (by have := g.few; omega) fun l hl => ⟨(g.all l hl).sent, (g.all l hl).taken⟩) .nil))
theorem houses_no {xs : List Da} {d : Da} (hd : d ∈ xs) (h : houseD d = false) : housesD (.tup xs) = false := by
  have : xs.all houseD = false := by
    cases e : xs.all houseD with
    | false => rfl
    | true => rw [List.all_eq_true.mp e d hd] at h; cases h
  simp [housesD, this]
theorem houses_twice {xs : List Da} (h : ¬ ((xs.map houseOf).map House.name).Nodup) : housesD (.tup xs) = false := by simp only [housesD, decide_eq_false h, Bool.false_and, Bool.and_false]
theorem houses_rows {xs : List Da} (h : ¬ (namesOf (xs.map houseOf)).Nodup) : housesD (.tup xs) = false := by simp [housesD, h]
theorem letters_no {hs : List House} {xs : List Da} {d : Da} (hd : d ∈ xs) (h : letterD d = false) : lettersD hs (.tup xs) = false := by
  have : xs.all letterD = false := by
    cases e : xs.all letterD with
    | false => rfl
    | true => rw [List.all_eq_true.mp e d hd] at h; cases h
  simp [lettersD, this]
theorem letters_own {hs : List House} {xs : List Da} {d : Da} (hd : d ∈ xs) (h : ownOk hs d = false) : lettersD hs (.tup xs) = false := by
  have : xs.all (ownOk hs) = false := by
    cases e : xs.all (ownOk hs) with
    | false => rfl
    | true => rw [List.all_eq_true.mp e d hd] at h; cases h
  simp [lettersD, this]
theorem letters_rise {hs : List House} {xs : List Da} (h : riseP (xs.map keyOf) = false) : lettersD hs (.tup xs) = false := by simp [lettersD, h]
theorem ledger_no1 {h l : Da} (e : housesD h = false) : ledgerD (.tup [h, l]) = false := by simp [ledgerD, e]
theorem ledger_no2 {h l : Da} (e : lettersD (housesOf h) l = false) : ledgerD (.tup [h, l]) = false := by simp [ledgerD, e]
end K02
namespace K02
open PySem L2
structure TD (te : TE) (σ : St) (H : Hp) (d : Da) : Prop where
  r : ∀ H1, Same H H1 → ∀ Q : VK, (∀ v H2, Same H1 H2 → DaAt H2 v d → Q v H2) → te σ H1 Q
theorem TD.use {te : TE} {σ : St} {H : Hp} {d : Da} (h : TD te σ H d) {H1 : Hp} (s : Same H H1) {Q : VK} (q : ∀ v H2, Same H1 H2 → DaAt H2 v d → Q v H2) : te σ H1 Q := h.r H1 s Q q
structure TDs (ta : TA) (σ : St) (H : Hp) (ds : List Da) : Prop where
  r : ∀ H1, Same H H1 → ∀ Q : List V → Hp → Prop, (∀ vs H2, Same H1 H2 → DaAs H2 vs ds → Q vs H2) → ta σ H1 Q
structure TPo (tl : TO) (σ : St) (H : Hp) (o : Option Int) : Prop where
  r : ∀ H1, Same H H1 → ∀ Q : Option Int → Hp → Prop, (∀ H2, Same H1 H2 → Q o H2) → tl σ H1 Q
theorem DaAs.app {H : Hp} : ∀ {vs ws : List V} {xs ys : List Da}, DaAs H vs xs → DaAs H ws ys → DaAs H (vs ++ ws) (xs ++ ys)
  | _, _, _, _, .nil, q => q
  | _, _, _, _, .cons h r, q => .cons h (DaAs.app r q)
theorem DaAs.takeD {H : Hp} : ∀ {vs : List V} {xs : List Da} (n : Nat), DaAs H vs xs → DaAs H (vs.take n) (xs.take n)
  | _, _, 0, _ => by rw [List.take_zero, List.take_zero]; exact .nil
  | _, _, n + 1, .nil => .nil
  | _, _, n + 1, .cons h r => .cons h (DaAs.takeD n r)
theorem DaAs.dropD {H : Hp} : ∀ {vs : List V} {xs : List Da} (n : Nat), DaAs H vs xs → DaAs H (vs.drop n) (xs.drop n)
  | _, _, 0, h => by rw [List.drop_zero, List.drop_zero]; exact h
  | _, _, n + 1, .nil => .nil
  | _, _, n + 1, .cons h r => DaAs.dropD n r
theorem DaAs.rev {H : Hp} : ∀ {vs : List V} {xs : List Da}, DaAs H vs xs → DaAs H vs.reverse xs.reverse
  | _, _, .nil => .nil
  | _, _, .cons h r => by rw [List.reverse_cons, List.reverse_cons]; exact DaAs.app (DaAs.rev r) (.cons h .nil)
section
variable {σ : St} {H : Hp} {te ta tb : TE} {ts : TA} {d : Da} {ds xs ys : List Da} {i j : Int} {tl th : TO} {lo hi : Option Int} {K : PySem.W.Frag}
theorem td_int : TD (tC (.int i)) σ H (.int i) := ⟨fun H1 _ _ q => q _ H1 (Same.refl _) (.int i)⟩
theorem td_bl {b : Bool} : TD (tC (.bl b)) σ H (.bl b) := ⟨fun H1 _ _ q => q _ H1 (Same.refl _) (.bl b)⟩
theorem td_non : TD (tC .non) σ H .non := ⟨fun H1 _ _ q => q _ H1 (Same.refl _) .non⟩
theorem td_str {z : Str} (h : z.length ≤ 1000) : TD (tC (.str z)) σ H (.str z) := ⟨fun H1 _ _ q => q _ H1 (Same.refl _) (.str z (by have sl0 : sizeLine = 16777216 := sizeLine_eq; omega))⟩
theorem td_v {k : Nat} {v : V} (e : σ[k]? = some (some v)) (h : DaAt H v d) : TD (tV k) σ H d := ⟨fun H1 s Q q => by
  unfold tV
  rw [e]
  exact q v H1 (Same.refl _) (h.same s)⟩
theorem td_v0 {v : V} {r : St} (h : DaAt H v d) : TD (tV 0) (some v :: r) H d := td_v rfl h
theorem td_v1 {v : V} {r : St} {o0 : Option V} (h : DaAt H v d) : TD (tV 1) (o0 :: some v :: r) H d := td_v rfl h
theorem td_v2 {v : V} {r : St} {o0 o1 : Option V} (h : DaAt H v d) : TD (tV 2) (o0 :: o1 :: some v :: r) H d := td_v rfl h
theorem td_v3 {v : V} {r : St} {o0 o1 o2 : Option V} (h : DaAt H v d) : TD (tV 3) (o0 :: o1 :: o2 :: some v :: r) H d := td_v rfl h
theorem td_v4 {v : V} {r : St} {o0 o1 o2 o3 : Option V} (h : DaAt H v d) : TD (tV 4) (o0 :: o1 :: o2 :: o3 :: some v :: r) H d := td_v rfl h
theorem td_v5 {v : V} {r : St} {o0 o1 o2 o3 o4 : Option V} (h : DaAt H v d) : TD (tV 5) (o0 :: o1 :: o2 :: o3 :: o4 :: some v :: r) H d := td_v rfl h
theorem td_v6 {v : V} {r : St} {o0 o1 o2 o3 o4 o5 : Option V} (h : DaAt H v d) : TD (tV 6) (o0 :: o1 :: o2 :: o3 :: o4 :: o5 :: some v :: r) H d := td_v rfl h
theorem td_v7 {v : V} {r : St} {o0 o1 o2 o3 o4 o5 o6 : Option V} (h : DaAt H v d) : TD (tV 7) (o0 :: o1 :: o2 :: o3 :: o4 :: o5 :: o6 :: some v :: r) H d := td_v rfl h
theorem td_v8 {v : V} {r : St} {o0 o1 o2 o3 o4 o5 o6 o7 : Option V} (h : DaAt H v d) : TD (tV 8) (o0 :: o1 :: o2 :: o3 :: o4 :: o5 :: o6 :: o7 :: some v :: r) H d := td_v rfl h
theorem td_v9 {v : V} {r : St} {o0 o1 o2 o3 o4 o5 o6 o7 o8 : Option V} (h : DaAt H v d) : TD (tV 9) (o0 :: o1 :: o2 :: o3 :: o4 :: o5 :: o6 :: o7 :: o8 :: some v :: r) H d := td_v rfl h
theorem td_v10 {v : V} {r : St} {o0 o1 o2 o3 o4 o5 o6 o7 o8 o9 : Option V} (h : DaAt H v d) : TD (tV 10) (o0 :: o1 :: o2 :: o3 :: o4 :: o5 :: o6 :: o7 :: o8 :: o9 :: some v :: r) H d := td_v rfl h
theorem td_v11 {v : V} {r : St} {o0 o1 o2 o3 o4 o5 o6 o7 o8 o9 o10 : Option V} (h : DaAt H v d) : TD (tV 11) (o0 :: o1 :: o2 :: o3 :: o4 :: o5 :: o6 :: o7 :: o8 :: o9 :: o10 :: some v :: r) H d := td_v rfl h
theorem td_v12 {v : V} {r : St} {o0 o1 o2 o3 o4 o5 o6 o7 o8 o9 o10 o11 : Option V} (h : DaAt H v d) : TD (tV 12) (o0 :: o1 :: o2 :: o3 :: o4 :: o5 :: o6 :: o7 :: o8 :: o9 :: o10 :: o11 :: some v :: r) H d := td_v rfl h
theorem td_v13 {v : V} {r : St} {o0 o1 o2 o3 o4 o5 o6 o7 o8 o9 o10 o11 o12 : Option V} (h : DaAt H v d) : TD (tV 13) (o0 :: o1 :: o2 :: o3 :: o4 :: o5 :: o6 :: o7 :: o8 :: o9 :: o10 :: o11 :: o12 :: some v :: r) H d := td_v rfl h
theorem td_v14 {v : V} {r : St} {o0 o1 o2 o3 o4 o5 o6 o7 o8 o9 o10 o11 o12 o13 : Option V} (h : DaAt H v d) : TD (tV 14) (o0 :: o1 :: o2 :: o3 :: o4 :: o5 :: o6 :: o7 :: o8 :: o9 :: o10 :: o11 :: o12 :: o13 :: some v :: r) H d := td_v rfl h
theorem td_v15 {v : V} {r : St} {o0 o1 o2 o3 o4 o5 o6 o7 o8 o9 o10 o11 o12 o13 o14 : Option V} (h : DaAt H v d) : TD (tV 15) (o0 :: o1 :: o2 :: o3 :: o4 :: o5 :: o6 :: o7 :: o8 :: o9 :: o10 :: o11 :: o12 :: o13 :: o14 :: some v :: r) H d := td_v rfl h
theorem td_neg {r : V → Hp → VK → Prop} (hr : r = fun x H Q => match x with | .int i => Q (.int (-i)) H | _ => False) (h : TD te σ H (.int i)) : TD (tUn r te) σ H (.int (-i)) := by
  subst hr
  exact ⟨fun H1 s Q q => h.r H1 s _ fun v H2 s2 hv => by cases hv; exact q _ H2 s2 (.int _)⟩
theorem tds_nil : TDs tNil σ H [] := ⟨fun H1 _ _ q => q [] H1 (Same.refl _) .nil⟩
theorem tds_cons (h : TD te σ H d) (r : TDs ts σ H ds) : TDs (tCons te ts) σ H (d :: ds) := ⟨fun H1 s Q q =>
  h.r H1 s _ fun v H2 s2 hv => r.r H2 (s.trans s2) _ fun vs H3 s3 hvs => q _ H3 (s2.trans s3) (.cons (hv.same s3) hvs)⟩
theorem td_tup (h : TDs ts σ H ds) (few : ds.length ≤ 25) : TD (tTup ts) σ H (.tup ds) := ⟨fun H1 s Q q =>
  h.r H1 s _ fun vs H2 s2 hvs => ⟨by have sl0 : sizeLine = 16777216 := sizeLine_eq; have := hvs.len; omega, fun p hp => q _ _ (s2.upd hp) (.tup upd_same (by rw [hvs.len]; exact few) (hvs.same ((Same.refl H2).upd hp)))⟩⟩
theorem td_lst (h : TDs ts σ H ds) (few : ds.length ≤ 25) : TD (tLst ts) σ H .oth := ⟨fun H1 s Q q =>
  h.r H1 s _ fun vs H2 s2 hvs => ⟨by have sl0 : sizeLine = 16777216 := sizeLine_eq; have := hvs.len; omega, fun p hp => q _ _ (s2.upd hp) (.lst upd_same)⟩⟩
theorem td_dic : TD tDNewK σ H .oth := ⟨fun H1 _ _ q p hp => q _ _ ((Same.refl H1).upd hp) (.dic upd_same)⟩
theorem td_add (ha : TD ta σ H (.int i)) (hb : TD tb σ H (.int j)) : TD (tOp (fI fun i j => .int (i + j)) ta tb) σ H (.int (i + j)) := ⟨fun H1 s Q q =>
  ha.r H1 s _ fun v H2 s2 hv => by
    cases hv
    exact hb.r H2 (s.trans s2) _ fun v H3 s3 hv => by cases hv; exact q _ H3 (s2.trans s3) (.int _)⟩
theorem td_add1 {k : Nat} (ha : TD ta σ H (.int (k : Int))) : TD (tOp (fI fun i j => .int (i + j)) ta (tC (.int 1))) σ H (.int ((k + 1 : Nat) : Int)) := td_add ha td_int
theorem td_sub (ha : TD ta σ H (.int i)) (hb : TD tb σ H (.int j)) : TD (tOp (fI fun i j => .int (i - j)) ta tb) σ H (.int (i - j)) := ⟨fun H1 s Q q =>
  ha.r H1 s _ fun v H2 s2 hv => by
    cases hv
    exact hb.r H2 (s.trans s2) _ fun v H3 s3 hv => by cases hv; exact q _ H3 (s2.trans s3) (.int _)⟩
theorem td_cat (ha : TD ta σ H (.tup xs)) (hb : TD tb σ H (.tup ys)) (few : xs.length + ys.length ≤ 25) : TD (tOp CatA ta tb) σ H (.tup (xs ++ ys)) := ⟨fun H1 s Q q =>
  ha.r H1 s _ fun v H2 s2 hv => hb.r H2 (s.trans s2) _ fun w H3 s3 hw => by
    obtain ⟨a, vs, rfl, ea, la, ra⟩ := (hv.same s3).tupE
    obtain ⟨b, ws, rfl, eb, lb, rb⟩ := hw.tupE
    have sl0 : sizeLine = 16777216 := sizeLine_eq
    have l1 := ra.len
    have l2 := rb.len
    exact ⟨a, b, vs, ws, rfl, rfl, ea, eb, by omega, fun p H4 hp s4 => q _ H4 ((s2.trans s3).trans s4) (.tup hp (by rw [List.length_append]; omega) ((ra.app rb).same s4))⟩⟩
theorem tpo_none : TPo tNoPart σ H none := ⟨fun H1 _ _ q => q H1 (Same.refl _)⟩
theorem tpo_i (h : TD te σ H (.int i)) : TPo (tPartF te) σ H (some i) := ⟨fun H1 s Q q => h.r H1 s _ fun v H2 s2 hv => by cases hv; exact q H2 s2⟩
theorem td_sl (h : TD te σ H (.tup xs)) (hl : TPo tl σ H lo) (hh : TPo th σ H hi) : TD (tSl SlA te tl th) σ H (.tup ((xs.drop (HT.sIx xs.length 0 lo)).take (HT.sIx xs.length xs.length hi - HT.sIx xs.length 0 lo))) := ⟨fun H1 s Q q =>
  h.r H1 s _ fun v H2 s2 hv => hl.r H2 (s.trans s2) _ fun H3 s3 => hh.r H3 ((s.trans s2).trans s3) _ fun H4 s4 => by
    obtain ⟨a, vs, rfl, ea, la, ra⟩ := (hv.same (s3.trans s4)).tupE
    refine ⟨a, vs, rfl, ea, fun p H5 hp s5 => q _ H5 (((s2.trans s3).trans s4).trans s5) (.tup hp (Nat.le_trans (cutV_length _ _ _) la) ?_)⟩
    unfold cutV
    rw [ra.len]
    exact ((ra.dropD _).takeD _).same s5⟩
theorem td_to {k : Nat} (h : TD te σ H (.tup xs)) (hh : TPo th σ H (some (k : Int))) : TD (tSl SlA te tNoPart th) σ H (.tup (xs.take k)) := by
  have z := td_sl h tpo_none hh
  rw [HT.sIx_none, HT.sIx_nat, List.drop_zero, Nat.sub_zero] at z
  rw [show xs.take k = xs.take (min k xs.length) from by rw [List.take_eq_take_iff]; omega]
  exact z
theorem td_from {k : Nat} (h : TD te σ H (.tup xs)) (hl : TPo tl σ H (some (k : Int))) : TD (tSl SlA te tl tNoPart) σ H (.tup (xs.drop k)) := by
  have z := td_sl h hl tpo_none
  rw [HT.sIx_none, HT.sIx_nat] at z
  have e : (xs.drop (min k xs.length)).take (xs.length - min k xs.length) = xs.drop k := by
    rw [List.take_of_length_le (by rw [List.length_drop]; omega)]
    by_cases hk : k ≤ xs.length
    · rw [Nat.min_eq_left hk]
    · rw [List.drop_of_length_le (by omega), List.drop_of_length_le (by omega)]
  rw [e] at z
  exact z
theorem td_rev (h : TD te σ H (.tup xs)) : TD (tRev K te) σ H (.tup xs.reverse) := ⟨fun H1 s Q q =>
  h.r H1 s _ fun v H2 s2 hv => by
    obtain ⟨a, vs, rfl, ea, la, ra⟩ := hv.tupE
    exact ⟨a, vs, rfl, SqT.of ea, fun p hp => q _ _ (s2.upd hp) (.tup upd_same (by rw [List.length_reverse]; exact la) (ra.rev.same ((Same.refl H2).upd hp)))⟩⟩
theorem td_twice {x : Da} (h : TD ta σ H (.tup [x])) : TD (tOp TwiceA ta (tC (.int 2))) σ H (.tup [x, x]) := ⟨fun H1 s Q q =>
  h.r H1 s _ fun v H2 s2 hv => by
    obtain ⟨a, vs, rfl, ea, la, ra⟩ := hv.tupE
    obtain ⟨z, rfl, hz⟩ := ra.one1
    exact ⟨a, z, rfl, rfl, ea, fun p hp => q _ _ (s2.upd hp) (.tup upd_same (show 2 ≤ 25 by decide) ((DaAs.cons hz (.cons hz .nil)).same ((Same.refl H2).upd hp)))⟩⟩
theorem td_listC (h : TD te σ H (.tup xs)) : TD (tCB (fun xs H Q => ∃ p ys, xs = [V.ref p] ∧ (SqL K H p ys ∨ SqT K H p ys) ∧ ∀ l, H l = none → Q (.ref l) (upd H l (.lst ys))) (tCons te tNil)) σ H .oth := ⟨fun H1 s Q q =>
  h.r H1 s _ fun v H2 s2 hv => by
    obtain ⟨a, vs, rfl, ea, la, ra⟩ := hv.tupE
    exact ⟨a, vs, rfl, .inr (SqT.of ea), fun l hl => q _ _ (s2.upd hl) (.lst upd_same)⟩⟩
theorem td_ixl {k : Nat} {a : Addr} {vs : List V} {v : V} (e : σ[k]? = some (some (.ref a))) (ha : H a = some (.lst vs)) (hv : atI vs i = some v) (hd : DaAt H v d) : TD (tOp (IxA K) (tV k) (tC (.int i))) σ H d := ⟨fun H1 s Q q => by
  unfold tOp tV
  rw [e]
  exact ixAt (s _ _ ha) hv (q v H1 (Same.refl _) (hd.same s))⟩
end
structure Kp (H H' : Hp) : Prop where
  tup : ∀ b xs, H b = some (.tup xs) → H' b = some (.tup xs)
  lst : ∀ b xs, H b = some (.lst xs) → ∃ ys, H' b = some (.lst ys)
  dic : ∀ b ks, H b = some (.dK ks) → ∃ k2, H' b = some (.dK k2)
theorem Kp.refl (H : Hp) : Kp H H := ⟨fun _ _ h => h, fun _ _ h => ⟨_, h⟩, fun _ _ h => ⟨_, h⟩⟩
theorem Kp.of {H H' : Hp} (s : Same H H') : Kp H H' := ⟨fun _ _ h => s _ _ h, fun _ _ h => ⟨_, s _ _ h⟩, fun _ _ h => ⟨_, s _ _ h⟩⟩
theorem Kp.trans {H H1 H2 : Hp} (a : Kp H H1) (b : Kp H1 H2) : Kp H H2 := ⟨fun _ _ h => b.tup _ _ (a.tup _ _ h), fun _ _ h => let ⟨_, z⟩ := a.lst _ _ h; b.lst _ _ z, fun _ _ h => let ⟨_, z⟩ := a.dic _ _ h; b.dic _ _ z⟩
theorem Kp.put {H : Hp} {a : Addr} {xs ys : List V} (h : H a = some (.lst xs)) : Kp H (upd H a (.lst ys)) := by
  refine ⟨fun b zs e => ?_, fun b zs e => ?_, fun b zs e => ?_⟩
  · rw [upd_ne (fun z => by rw [z, h] at e; cases e)]; exact e
  · by_cases z : b = a
    · subst z; exact ⟨ys, upd_same⟩
    · exact ⟨zs, by rw [upd_ne z]; exact e⟩
  · exact ⟨zs, by rw [upd_ne (fun z => by rw [z, h] at e; cases e)]; exact e⟩
mutual
theorem DaAt.kp {H H' : Hp} (s : Kp H H') : ∀ {v : V} {d : Da}, DaAt H v d → DaAt H' v d
  | _, _, .non => .non
  | _, _, .bl b => .bl b
  | _, _, .int i => .int i
  | _, _, .str z h => .str z h
  | _, _, .tup h l r => .tup (s.tup _ _ h) l (DaAs.kp s r)
  | _, _, .lst h => let ⟨_, z⟩ := s.lst _ _ h; .lst z
  | _, _, .dic h => let ⟨_, z⟩ := s.dic _ _ h; .dic z
theorem DaAs.kp {H H' : Hp} (s : Kp H H') : ∀ {v : List V} {d : List Da}, DaAs H v d → DaAs H' v d
  | _, _, .nil => .nil
  | _, _, .cons h r => .cons (DaAt.kp s h) (DaAs.kp s r)
end
section
variable {σ : St} {H : Hp} {te : TE} {ts : TA} {ds ods : List Da} {K : PySem.W.Frag}
theorem tl_lst (h : TDs ts σ H ds) (few : ds.length ≤ 1000) {Q : VK} (q : ∀ a vs H2, H a = none → Same H H2 → H2 a = some (.lst vs) → DaAs H2 vs ds → Q (.ref a) H2) : tLst ts σ H Q :=
  h.r H (Same.refl H) _ fun vs H2 s2 hvs => ⟨by have sl0 : sizeLine = 16777216 := sizeLine_eq; have := hvs.len; omega, fun p hp => q p vs _ (by
    cases e : H p with
    | none => rfl
    | some o => rw [s2 _ _ e] at hp; cases hp) (s2.upd hp) upd_same (hvs.same ((Same.refl H2).upd hp))⟩
theorem tl_cat {k : Nat} {a : Addr} {vs : List V} (e : σ[k]? = some (some (.ref a))) (ha : H a = some (.lst vs)) (hv : DaAs H vs ods) (h : TDs ts σ H ds) (few : ods.length + ds.length ≤ 1000) {Q : VK}
    (q : ∀ b ws H2, H b = none → Same H H2 → H2 b = some (.lst ws) → DaAs H2 ws (ods ++ ds) → Q (.ref b) H2) : tOp rCat (tV k) (tLst ts) σ H Q := by
  show tV k σ H _
  unfold tV
  rw [e]
  refine tl_lst h (by omega) fun c us H2 _ s2 ec hu => ?_
  have sl0 : sizeLine = 16777216 := sizeLine_eq
  have l1 := hv.len
  have l2 := hu.len
  refine ⟨a, c, vs, us, rfl, rfl, s2 _ _ ha, ec, by omega, fun p hp => q p _ _ (by
    cases e : H p with
    | none => rfl
    | some o => rw [s2 _ _ e] at hp; cases hp) (s2.upd hp) upd_same (((hv.same s2).app hu).same ((Same.refl H2).upd hp))⟩
theorem loop_over {l : Addr} {os : List V} {iF iO : Nat} {D : Ends} {a : Addr} {vs : List V} {f : Da → Da} (e : σ[iF]? = some (some (.ref a))) (ne : iO ≠ iF) (h0 : ∃ o, σ = σ.set iO o)
    (ha : H a = some (.lst vs)) (hv : DaAs H vs ds) (nla : l ≠ a) (el : H l = some (.lst os)) (hos : DaAs H os ods) (few : ds.length + ods.length ≤ 1000)
    (elt : ∀ x d H', d ∈ ods → Kp H H' → DaAt H' x d → TD te (σ.set iO (some x)) H' (f d))
    (fin : ∀ o H' ws, Kp H H' → SameB a H H' → H' a = some (.lst ws) → DaAs H' ws (ds ++ ods.map f) → D.nx (σ.set iO o) H') :
    ∃ W : Nat → Nat → St → Hp → Prop, (∃ m, W 0 m σ H) ∧ ∀ i m σ H, W i m σ H →
      ((Itl K l).stop i H ∧ D.nx σ H) ∨ ((Itl K l).go i H ∧ ∃ N : St → Hp → Prop, (∀ σ' H', N σ' H' → ∃ m', m' < m ∧ W (i + 1) m' σ' H') ∧ ∀ x H', (Itl K l).yld i H x H' → gName iO x σ H' fun σ2 H2 => tDrop (tBM K "list" rAppend (tV iF) (tCons te tNil)) { D with nx := N, ct := N, bk := D.nx } σ2 H2) := by
  have sl0 : sizeLine = 16777216 := sizeLine_eq
  have lo := hos.len
  refine for_list (xs := os) (fun i σ' H' => ∃ o ws, σ' = σ.set iO o ∧ Kp H H' ∧ SameB a H H' ∧ H' a = some (.lst ws) ∧ H' l = some (.lst os) ∧ DaAs H' ws (ds ++ (ods.take i).map f))
    (by obtain ⟨o, ho'⟩ := h0; exact ⟨o, vs, ho', Kp.refl _, SameB.of (Same.refl _), ha, el, by simpa using hv⟩) (fun i σ' H' _ ⟨_, _, _, _, _, _, z, _⟩ => SqL.of z) (fun i x σ' H' hx ⟨o, ws, eσ, kp, sb, ea, el', hws⟩ => ?_) (fun σ' H' ⟨o, ws, eσ, kp, sb, ea, el', hws⟩ => ?_)
  · subst eσ
    obtain ⟨d, hd, hxd⟩ := hos.get hx
    have eF : (σ.set iO (some x))[iF]? = some (some (.ref a)) := by rw [List.getElem?_set_ne ne]; exact e
    show tDrop (tBM K "list" rAppend (tV iF) (tCons te tNil)) _ ((σ.set iO o).set iO (some x)) H'
    rw [List.set_set]
    unfold tDrop tBM tV
    rw [eF]
    refine ⟨.inl ⟨rfl, _, SqL.of ea⟩, ?_⟩
    refine (elt x d H' (List.mem_of_getElem? hd) kp (hxd.kp kp)).r H' (Same.refl _) _ fun v H2 s2 hvd => ?_
    have lw := hws.len
    rw [List.length_append, List.length_map, List.length_take] at lw
    refine ⟨a, ws, v, rfl, rfl, s2 _ _ ea, by omega, ?_⟩
    have ea2 := s2 _ _ ea
    refine ⟨some x, ws ++ [v], rfl, (kp.trans (Kp.of s2)).trans (Kp.put ea2), (sb.trans (SameB.of s2)).upd, upd_same, (upd_ne nla).trans (s2 _ _ el'), ?_⟩
    have z : (ods.take (i + 1)).map f = (ods.take i).map f ++ [f d] := by rw [List.take_add_one, hd, List.map_append]; rfl
    rw [z, ← List.append_assoc]
    exact ((hws.same s2).app (.cons hvd .nil)).kp (Kp.put ea2)
  · subst eσ
    rw [lo, List.take_length] at hws
    exact fin o H' ws kp sb ea hws
theorem loop_app {tas : TA} {iF iO : Nat} {D : Ends} {a : Addr} {vs : List V} {f : Da → Da} (e : σ[iF]? = some (some (.ref a))) (ne : iO ≠ iF) (h0 : ∃ o, σ = σ.set iO o)
    (ha : H a = some (.lst vs)) (hv : DaAs H vs ds) (ho : TDs tas σ H ods) (few : ds.length + ods.length ≤ 1000)
    (elt : ∀ x d H', d ∈ ods → Kp H H' → DaAt H' x d → TD te (σ.set iO (some x)) H' (f d))
    (fin : ∀ o H' ws, Kp H H' → SameB a H H' → H' a = some (.lst ws) → DaAs H' ws (ds ++ ods.map f) → D.nx (σ.set iO o) H') :
    tFor (iList K (tLst tas)) (gName iO) (tDrop (tBM K "list" rAppend (tV iF) (tCons te tNil))) D σ H := by
  unfold tFor iList
  refine tl_lst (ds := ods) ho (by omega) fun l os H1 fl s1 el hos => ⟨l, rfl, ⟨_, SqL.of el⟩, ?_⟩
  have nla : l ≠ a := fun z => by rw [z, ha] at fl; cases fl
  exact loop_over e ne h0 (s1 _ _ ha) (hv.same s1) nla el hos few (fun x d H' hd kp hx => elt x d H' hd ((Kp.of s1).trans kp) hx) (fun o H' ws kp sb ea hws => fin o H' ws ((Kp.of s1).trans kp) (fun b u n z => sb b u n (s1 b u z)) ea hws)
theorem do_app {iF : Nat} {D : Ends} {a : Addr} {vs : List V} {d : Da} (e : σ[iF]? = some (some (.ref a))) (ha : H a = some (.lst vs)) (hv : DaAs H vs ds) (few : ds.length ≤ 1000) (elt : TD te σ H d)
    (fin : ∀ H' ws, Kp H H' → SameB a H H' → H' a = some (.lst ws) → DaAs H' ws (ds ++ [d]) → D.nx σ H') : tDrop (tBM K "list" rAppend (tV iF) (tCons te tNil)) D σ H := by
  have sl0 : sizeLine = 16777216 := sizeLine_eq
  have lw := hv.len
  unfold tDrop tBM tV
  rw [e]
  refine ⟨.inl ⟨rfl, _, SqL.of ha⟩, ?_⟩
  refine elt.r H (Same.refl _) _ fun v H2 s2 hvd => ?_
  have ea2 := s2 _ _ ha
  exact ⟨a, vs, v, rfl, rfl, ea2, by omega, fin _ _ ((Kp.of s2).trans (Kp.put ea2)) ((SameB.of s2).upd) upd_same (((hv.same s2).app (.cons hvd .nil)).kp (Kp.put ea2))⟩
theorem loop_cat {tas : TA} {iF iO : Nat} {D : Ends} {a : Addr} {vs : List V} {f : Da → List Da} (e : σ[iF]? = some (some (.ref a))) (ne : iO ≠ iF) (h0 : ∃ o, σ = σ.set iO o)
    (ha : H a = some (.lst vs)) (hv : DaAs H vs ds) (ho : TDs tas σ H ods) (few : ds.length + (ods.flatMap f).length ≤ 1000) (few2 : ods.length ≤ 1000)
    (elt : ∀ x d r H', d ∈ ods → Same H H' → DaAt H' x d → TDs ts ((σ.set iF r).set iO (some x)) H' (f d))
    (fin : ∀ o b H' ws, Same H H' → H' b = some (.lst ws) → DaAs H' ws (ds ++ ods.flatMap f) → (b = a ∨ H b = none) → D.nx ((σ.set iF (some (.ref b))).set iO o) H') :
    tFor (iList K (tLst tas)) (gName iO) (tAsg (tOp rCat (tV iF) (tLst ts)) (gName iF)) D σ H := by
  unfold tFor iList
  refine tl_lst (ds := ods) ho (by omega) fun l os H1 fl s1 el hos => ⟨l, rfl, ⟨_, SqL.of el⟩, ?_⟩
  have sl0 : sizeLine = 16777216 := sizeLine_eq
  have lo := hos.len
  have hF : iF < σ.length := by
    by_cases z : iF < σ.length
    · exact z
    · rw [List.getElem?_eq_none (by omega)] at e; cases e
  have eset : σ.set iF (some (.ref a)) = σ := by
    refine List.ext_getElem? fun n => ?_
    by_cases z : iF = n
    · subst z; rw [List.getElem?_set_self hF, e]
    · rw [List.getElem?_set_ne z]
  refine for_list (xs := os) (fun i σ' H' => ∃ o b ws, σ' = (σ.set iF (some (.ref b))).set iO o ∧ Same H1 H' ∧ H' b = some (.lst ws) ∧ DaAs H' ws (ds ++ (ods.take i).flatMap f) ∧ (b = a ∨ H b = none))
    (by obtain ⟨o, ho'⟩ := h0; exact ⟨o, a, vs, by rw [eset]; exact ho', Same.refl _, s1 _ _ ha, by simpa using hv.same s1, .inl rfl⟩) (fun i σ' H' _ ⟨_, _, _, _, z, _⟩ => SqL.of (z _ _ el)) (fun i x σ' H' hx ⟨o, b, ws, eσ, sm, ea, hws, fb⟩ => ?_) (fun σ' H' ⟨o, b, ws, eσ, sm, ea, hws, fb⟩ => ?_)
  · subst eσ
    obtain ⟨d, hd, hxd⟩ := hos.get hx
    show tAsg (tOp rCat (tV iF) (tLst ts)) (gName iF) _ (((σ.set iF (some (.ref b))).set iO o).set iO (some x)) H'
    rw [List.set_set]
    have z : (ods.take (i + 1)).flatMap f = (ods.take i).flatMap f ++ f d := by rw [List.take_add_one, hd, List.flatMap_append]; simp
    have z2 : ((ods.take (i + 1)).flatMap f).length ≤ (ods.flatMap f).length := by
      have y : ods.flatMap f = (ods.take (i + 1)).flatMap f ++ (ods.drop (i + 1)).flatMap f := by rw [← List.flatMap_append, List.take_append_drop]
      rw [y, List.length_append]; omega
    rw [z, List.length_append] at z2
    refine tl_cat (a := b) (vs := ws) (ods := ds ++ (ods.take i).flatMap f) (by rw [List.getElem?_set_ne ne, List.getElem?_set_self hF]) ea hws (elt x d _ H' (List.mem_of_getElem? hd) (s1.trans sm) (hxd.same sm)) (by rw [List.length_append]; omega) fun c us H2 fc s2 ec hus => ?_
    show ∃ o b ws, _
    refine ⟨some x, c, us, ?_, sm.trans s2, ec, by rw [z, ← List.append_assoc]; exact hus, .inr ?_⟩
    · rw [List.set_comm _ _ ne, List.set_set]
    · cases y : H c with
      | none => rfl
      | some u => rw [sm _ _ (s1 _ _ y)] at fc; cases fc
  · subst eσ
    rw [lo, List.take_length] at hws
    exact fin o b H' ws (s1.trans sm) ea hws fb
end
end K02
namespace K02
open PySem L2
section
variable {σ : St} {H : Hp} {te : TE} {ts : TA} {ds ods : List Da} {K : PySem.W.Frag} {D : Ends} {t u : TS}
theorem set_lst {i : Nat} (h : TDs ts σ H ds) (few : ds.length ≤ 1000) (q : ∀ a vs H2, H a = none → Same H H2 → H2 a = some (.lst vs) → DaAs H2 vs ds → D.nx (σ.set i (some (.ref a))) H2) : tAsg (tLst ts) (gName i) D σ H := tl_lst h few q
theorem set_cat {i k : Nat} {a : Addr} {vs : List V} (e : σ[k]? = some (some (.ref a))) (ha : H a = some (.lst vs)) (hv : DaAs H vs ods) (h : TDs ts σ H ds) (few : ods.length + ds.length ≤ 1000)
    (q : ∀ b ws H2, H b = none → Same H H2 → H2 b = some (.lst ws) → DaAs H2 ws (ods ++ ds) → D.nx (σ.set i (some (.ref b))) H2) : tAsg (tOp rCat (tV k) (tLst ts)) (gName i) D σ H := tl_cat e ha hv h few q
theorem ret_cat {k : Nat} {a : Addr} {vs : List V} (e : σ[k]? = some (some (.ref a))) (ha : H a = some (.lst vs)) (hv : DaAs H vs ods) (h : TDs ts σ H ds) (few : ods.length + ds.length ≤ 1000)
    (q : ∀ b ws H2, H b = none → Same H H2 → H2 b = some (.lst ws) → DaAs H2 ws (ods ++ ds) → D.rt (.ref b) H2) : tRet (tOp rCat (tV k) (tLst ts)) D σ H := tl_cat e ha hv h few q
theorem loop_var {l : Addr} {os : List V} {iL iF iO : Nat} {a : Addr} {vs : List V} {f : Da → Da} (eo : σ[iL]? = some (some (.ref l))) (e : σ[iF]? = some (some (.ref a))) (ne : iO ≠ iF) (h0 : ∃ o, σ = σ.set iO o)
    (ha : H a = some (.lst vs)) (hv : DaAs H vs ds) (nla : l ≠ a) (el : H l = some (.lst os)) (hos : DaAs H os ods) (few : ds.length + ods.length ≤ 1000)
    (elt : ∀ x d H', d ∈ ods → Kp H H' → DaAt H' x d → TD te (σ.set iO (some x)) H' (f d))
    (fin : ∀ o H' ws, Kp H H' → SameB a H H' → H' a = some (.lst ws) → DaAs H' ws (ds ++ ods.map f) → D.nx (σ.set iO o) H') :
    tFor (iList K (tV iL)) (gName iO) (tDrop (tBM K "list" rAppend (tV iF) (tCons te tNil))) D σ H := by
  unfold tFor iList tV
  rw [eo]
  exact ⟨l, rfl, ⟨_, SqL.of el⟩, loop_over e ne h0 ha hv nla el hos few elt fin⟩
theorem asg_s {g : TG} (h : te σ H fun x H1 => g x σ H1 (u D)) : tSeq (tAsg te g) u D σ H := h
theorem asg_h {g : TG} (h : ∀ U : St → Hp → Prop, U = u D → te σ H fun x H1 => g x σ H1 U) : tSeq (tAsg te g) u D σ H := h (u D) rfl
theorem set_lstS {i : Nat} (σs : Option V → St) (hs : ∀ z, σ.set i z = σs z) (h : TDs ts σ H ds) (few : ds.length ≤ 1000) (q : ∀ a vs H2, H a = none → Same H H2 → H2 a = some (.lst vs) → DaAs H2 vs ds → u D (σs (some (.ref a))) H2) : tSeq (tAsg (tLst ts) (gName i)) u D σ H :=
  set_lst (D := { D with nx := u D }) h few fun a vs H2 h1 h2 h3 h4 => by show u D _ _; rw [hs]; exact q a vs H2 h1 h2 h3 h4
theorem set_catS {i k : Nat} {a : Addr} {vs : List V} (σs : Option V → St) (hs : ∀ z, σ.set i z = σs z) (e : σ[k]? = some (some (.ref a))) (ha : H a = some (.lst vs)) (hv : DaAs H vs ods) (h : TDs ts σ H ds) (few : ods.length + ds.length ≤ 1000)
    (q : ∀ b ws H2, H b = none → Same H H2 → H2 b = some (.lst ws) → DaAs H2 ws (ods ++ ds) → u D (σs (some (.ref b))) H2) : tSeq (tAsg (tOp rCat (tV k) (tLst ts)) (gName i)) u D σ H :=
  set_cat (D := { D with nx := u D }) e ha hv h few fun b ws H2 h1 h2 h3 h4 => by show u D _ _; rw [hs]; exact q b ws H2 h1 h2 h3 h4
theorem loop_varS {l : Addr} {os : List V} {iL iF iO : Nat} {a : Addr} {vs : List V} {f : Da → Da} (σs : Option V → St) (hs : ∀ z, σ.set iO z = σs z) (eo : σ[iL]? = some (some (.ref l))) (e : σ[iF]? = some (some (.ref a))) (ne : iO ≠ iF) (h0 : ∃ o, σ = σs o)
    (ha : H a = some (.lst vs)) (hv : DaAs H vs ds) (nla : l ≠ a) (el : H l = some (.lst os)) (hos : DaAs H os ods) (few : ds.length + ods.length ≤ 1000)
    (elt : ∀ x d H', d ∈ ods → Kp H H' → DaAt H' x d → TD te (σs (some x)) H' (f d))
    (fin : ∀ o H' ws, Kp H H' → SameB a H H' → H' a = some (.lst ws) → DaAs H' ws (ds ++ ods.map f) → u D (σs o) H') :
    tSeq (tFor (iList K (tV iL)) (gName iO) (tDrop (tBM K "list" rAppend (tV iF) (tCons te tNil)))) u D σ H :=
  loop_var (D := { D with nx := u D }) eo e ne (let ⟨o, z⟩ := h0; ⟨o, z.trans (hs o).symm⟩) ha hv nla el hos few (fun x d H' h1 h2 h3 => by rw [hs]; exact elt x d H' h1 h2 h3) fun o H' ws h1 h2 h3 h4 => by show u D _ _; rw [hs]; exact fin o H' ws h1 h2 h3 h4
theorem loop_appS {tas : TA} {iF iO : Nat} {a : Addr} {vs : List V} {f : Da → Da} (σs : Option V → St) (hs : ∀ z, σ.set iO z = σs z) (e : σ[iF]? = some (some (.ref a))) (ne : iO ≠ iF) (h0 : ∃ o, σ = σs o)
    (ha : H a = some (.lst vs)) (hv : DaAs H vs ds) (ho : TDs tas σ H ods) (few : ds.length + ods.length ≤ 1000)
    (elt : ∀ x d H', d ∈ ods → Kp H H' → DaAt H' x d → TD te (σs (some x)) H' (f d))
    (fin : ∀ o H' ws, Kp H H' → SameB a H H' → H' a = some (.lst ws) → DaAs H' ws (ds ++ ods.map f) → u D (σs o) H') :
    tSeq (tFor (iList K (tLst tas)) (gName iO) (tDrop (tBM K "list" rAppend (tV iF) (tCons te tNil)))) u D σ H :=
  loop_app (D := { D with nx := u D }) e ne (let ⟨o, z⟩ := h0; ⟨o, z.trans (hs o).symm⟩) ha hv ho few (fun x d H' h1 h2 h3 => by rw [hs]; exact elt x d H' h1 h2 h3) fun o H' ws h1 h2 h3 h4 => by show u D _ _; rw [hs]; exact fin o H' ws h1 h2 h3 h4
theorem loop_catS {tas : TA} {iF iO : Nat} {a : Addr} {vs : List V} {f : Da → List Da} (σs : Option V → Option V → St) (hs : ∀ r z, (σ.set iF r).set iO z = σs r z) (e : σ[iF]? = some (some (.ref a))) (ne : iO ≠ iF) (h0 : ∃ o, σ = σ.set iO o)
    (ha : H a = some (.lst vs)) (hv : DaAs H vs ds) (ho : TDs tas σ H ods) (few : ds.length + (ods.flatMap f).length ≤ 1000) (few2 : ods.length ≤ 1000)
    (elt : ∀ x d r H', d ∈ ods → Same H H' → DaAt H' x d → TDs ts (σs r (some x)) H' (f d))
    (fin : ∀ o b H' ws, Same H H' → H' b = some (.lst ws) → DaAs H' ws (ds ++ ods.flatMap f) → (b = a ∨ H b = none) → u D (σs (some (.ref b)) o) H') :
    tSeq (tFor (iList K (tLst tas)) (gName iO) (tAsg (tOp rCat (tV iF) (tLst ts)) (gName iF))) u D σ H :=
  loop_cat (D := { D with nx := u D }) e ne h0 ha hv ho few few2 (fun x d r H' h1 h2 h3 => by rw [hs]; exact elt x d r H' h1 h2 h3) fun o b H' ws h1 h2 h3 h4 => by show u D _ _; rw [hs]; exact fin o b H' ws h1 h2 h3 h4
theorem do_appS {iF : Nat} {a : Addr} {vs : List V} {d : Da} (e : σ[iF]? = some (some (.ref a))) (ha : H a = some (.lst vs)) (hv : DaAs H vs ds) (few : ds.length ≤ 1000) (elt : TD te σ H d)
    (fin : ∀ H' ws, Kp H H' → SameB a H H' → H' a = some (.lst ws) → DaAs H' ws (ds ++ [d]) → u D σ H') : tSeq (tDrop (tBM K "list" rAppend (tV iF) (tCons te tNil))) u D σ H := do_app (D := { D with nx := u D }) e ha hv few elt fin
theorem if_appS {iF iR : Nat} {a : Addr} {vs : List V} {d : Da} {v : V} {rs : List Da} (er : σ[iR]? = some (some v)) (hR : DaAt H v (.tup rs)) (e : σ[iF]? = some (some (.ref a))) (ha : H a = some (.lst vs)) (hv : DaAs H vs ds) (few : ds.length ≤ 1000) (elt : rs ≠ [] → ∀ H', Same H H' → TD te σ H' d)
    (fin : ∀ H' ws ds', SameB a H H' → H' a = some (.lst ws) → DaAs H' ws ds' → (ds' = ds ∨ (rs ≠ [] ∧ ds' = ds ++ [d])) → u D σ H') :
    tSeq (tIfS (tF (tOp NeT (tV iR) (tTup tNil))) (tDrop (tBM K "list" rAppend (tV iF) (tCons te tNil))) tNext) u D σ H := by
  obtain ⟨c, wr, rfl, ec, lc, rc⟩ := hR.tupE
  unfold tSeq tIfS tF tOp
  rw [show tV iR = fun σ H Q => match σ[iR]? with | some (some v) => Q v H | _ => False from rfl]
  simp only [er]
  refine ⟨Nat.zero_le _, fun p hp => ⟨⟨c, p, wr, rfl, rfl, ((Same.refl H).upd hp) _ _ ec, upd_same, ?_⟩⟩⟩
  have Sp : Same H (upd H p (.tup [])) := (Same.refl _).upd hp
  refine ite2 (fun ne => ?_) (fun ne => ?_)
  · have nr : rs ≠ [] := fun z => by
      have lz := rc.len
      rw [z] at lz
      have : wr = [] := List.eq_nil_of_length_eq_zero lz
      rw [this] at ne
      exact absurd ne (by decide)
    exact do_app (D := { D with nx := u D }) (a := a) e (Sp _ _ ha) (hv.same Sp) few (elt nr _ Sp) fun H' ws kp sb ea hw => fin H' ws _ (fun b o n z => sb b o n (Sp b o z)) ea hw (.inr ⟨nr, rfl⟩)
  · exact fin _ vs ds (SameB.of Sp) (Sp _ _ ha) (hv.same Sp) (.inl rfl)
end
theorem fresh_up {H H1 : Hp} {a : Addr} (s : Same H H1) (h : H1 a = none) : H a = none := by
  cases e : H a with
  | none => rfl
  | some o => rw [s _ _ e] at h; cases h
theorem fa_nil {p : Da → Prop} : ∀ d ∈ ([] : List Da), p d := fun _ h => by simp at h
theorem fa_cons {p : Da → Prop} {x : Da} {l : List Da} (h : p x) (r : ∀ d ∈ l, p d) : ∀ d ∈ x :: l, p d := fun d hd => (List.mem_cons.mp hd).elim (fun e => e ▸ h) (r d)
theorem fa_app {p : Da → Prop} {l m : List Da} (h : ∀ d ∈ l, p d) (r : ∀ d ∈ m, p d) : ∀ d ∈ l ++ m, p d := fun d hd => (List.mem_append.mp hd).elim (h d) (r d)
theorem fa_map {p q : Da → Prop} {f : Da → Da} {l : List Da} (h : ∀ d ∈ l, q d) (r : ∀ d, q d → p (f d)) : ∀ d ∈ l.map f, p d := fun d hd => by
  obtain ⟨x, hx, rfl⟩ := List.mem_map.mp hd
  exact r x (h x hx)
theorem fa_flat {p q : Da → Prop} {f : Da → List Da} {l : List Da} (h : ∀ d ∈ l, q d) (r : ∀ d, q d → ∀ e ∈ f d, p e) : ∀ d ∈ l.flatMap f, p d := fun d hd => by
  obtain ⟨x, hx, hd⟩ := List.mem_flatMap.mp hd
  exact r x (h x hx) d hd
section
variable {n l h d r : Da}
theorem hD1 (c : clockD n l h d = false) : houseD (.tup [n, l, h, d, r]) = false := by simp [houseD, c]
theorem hD2 (c : runsD r = false) : houseD (.tup [n, l, h, d, r]) = false := by simp [houseD, c]
theorem ckN (c : isND n = false) : clockD n l h d = false := by simp [clockD, c]
theorem ckL (c : isWD l = false) : clockD n l h d = false := by simp [clockD, c]
theorem ckH (c : isWD h = false) : clockD n l h d = false := by simp [clockD, c]
theorem ckD (c : isWD d = false) : clockD n l h d = false := by simp [clockD, c]
theorem ckW {i j : Int} (c : j < i) : clockD n (.int i) (.int j) d = false := by
  have : ¬ i ≤ j := by omega
  simp [clockD, intD, this]
theorem ckM {j : Int} (c : j < 0) : clockD n l h (.int j) = false := by
  have : ¬ 0 ≤ j := by omega
  simp [clockD, intD, this]
theorem rnO {rs : List Da} {x : Da} (c : runD x = false) : runsD (.tup (rs ++ [x])) = false := by simp [runsD, c]
theorem rn1 {x : Da} (c : namedD x = false) : runD (.tup [x]) = false := by simp [runD, c]
end
noncomputable def putD (hs : List House) (k : Nat) (d : Da) : Da := .tup ((hs.map houseDa).take k ++ [d] ++ (hs.map houseDa).drop (k + 1))
noncomputable def BadH (hs : List House) (k : Nat) (d : Da) : Prop := housesD (putD hs k d) = false
theorem badH {hs : List House} {k : Nat} {d : Da} (h : houseD d = false) : BadH hs k d := houses_no (d := d) (by simp) h
theorem badH_rows {hs : List House} {k : Nat} {d : Da} (h : ¬ (namesH (houseOf d)).Nodup) : BadH hs k d := by
  refine houses_rows fun nd => h ?_
  rw [List.map_append, List.map_append] at nd
  unfold namesOf at nd
  rw [List.flatMap_append, List.flatMap_append] at nd
  have z := (List.nodup_append.mp (List.nodup_append.mp nd).1).2.1
  simpa using z
theorem runs_twice {h : House} {d : List Da} (e : d = h.runs.map runDa ++ (h.runs.map runDa).take 1) (ne : h.runs ≠ []) (g : ∀ r ∈ h.runs, GoodRun r) : ¬ (namesH (houseOf (.tup [.str h.name, .int h.low, .int h.high, .int h.drift, .tup d]))).Nodup := by
  subst e
  show ¬ (((h.runs.map runDa ++ (h.runs.map runDa).take 1).map runOf).flatten.map Prod.fst).Nodup
  rw [List.map_append, List.map_take, List.map_map, show runOf ∘ runDa = id from funext runOf_da, List.map_id, List.flatten_append, List.map_append]
  intro nd
  cases er : h.runs with
  | nil => exact ne er
  | cons r rs =>
    rw [er] at nd g
    have nr := (g r List.mem_cons_self).ne
    cases e2 : r with
    | nil => exact nr e2
    | cons x xs =>
      subst e2
      exact (List.nodup_append.mp nd).2.2 x.1 (by simp) x.1 (by simp) rfl
theorem runs_few {hs : List House} {h : House} (g : GoodHouses hs) (m : h ∈ hs) : h.runs.length ≤ 24 := by
  have z := g.few
  have gh := g.all h m
  have key : ∀ rs : List (List Row), (∀ r ∈ rs, r ≠ []) → rs.length ≤ rs.flatten.length := by
    intro rs
    induction rs with
    | nil => intro _; exact Nat.le_refl _
    | cons r rs ih =>
      intro hh
      have h1 := ih fun x hx => hh x (List.mem_cons_of_mem _ hx)
      have h2 : r.length ≠ 0 := fun e => hh r List.mem_cons_self (List.eq_nil_of_length_eq_zero e)
      rw [List.flatten_cons, List.length_append, List.length_cons]
      omega
  have k1 := key h.runs fun r hr => (gh.runs r hr).ne
  have k2 : (namesH h).length ≤ (namesOf hs).length := by
    unfold namesOf
    obtain ⟨a, b, e⟩ := List.append_of_mem m
    rw [e, List.flatMap_append, List.flatMap_cons, List.length_append, List.length_append]
    omega
  unfold namesH rowsH at k2
  rw [List.length_map] at k2
  omega
end K02
namespace K02
open PySem L2
section
variable {g : BI → TG} {te : BI → TE} {σ0 : St} {D : Addr} {End : Hp → Prop} {H1 : Hp}
theorem comp_rangeD {n : Nat} {f : Nat → Da} (hD : H1 D = none) (few : n ≤ 1000)
    (turn : ∀ (i : Nat) (H' : Hp), i < n → Same H1 H' → ∀ b (R : VK), (∀ v H'', Same H' H'' → DaAt H'' v (f i) → R v H'') → g b (.int (0 + i)) σ0 H' fun σ2 H2 => te b σ2 H2 R)
    (fin : ∀ vs H', Same H1 H' → H' D = some (.lst vs) → DaAs H' vs ((List.range n).map f) → End H') :
    ∃ W : Nat → Nat → Hp → Prop, (∃ m, W 0 m (upd H1 D (.lst []))) ∧ ∀ b, CTurn (Itr 0 n) (g b) (tYes) (aPut D (te b)) σ0 End W :=
  comp_range (lo := 0) (n := n) (fun i H' => ∃ vs, H' D = some (.lst vs) ∧ Same H1 H' ∧ DaAs H' vs ((List.range i).map f)) ⟨[], upd_same, (Same.refl H1).upd hD, .nil⟩ (fun H' ⟨vs, e, s, h⟩ => fin vs H' s e h) (fun i H' hi ⟨vs, e, s, h⟩ b =>
    turn i H' hi s b _ fun v H'' s2 hv => ⟨vs, s2 _ _ e, by have sl0 : sizeLine = 16777216 := sizeLine_eq; have := h.len; rw [List.length_map, List.length_range] at this; omega, nx hi (by
      refine ⟨vs ++ [v], upd_same, fun c u z => by rw [upd_ne (ne_of_none z hD)]; exact (s.trans s2) c u z, ?_⟩
      rw [List.range_succ, List.map_append]
      exact ((h.same s2).app (.cons hv .nil)).kp (Kp.put (s2 _ _ e)))⟩)
theorem comp_listD {K : PySem.W.Frag} {a : Addr} {xs : List V} {ds : List Da} {f : Da → Da} (hD : H1 D = none) (ha : H1 a = some (.lst xs)) (hx : DaAs H1 xs ds) (few : ds.length ≤ 1000)
    (turn : ∀ (x : V) (d : Da) (H' : Hp), d ∈ ds → DaAt H' x d → Same H1 H' → ∀ b (R : VK), (∀ v H'', Same H' H'' → DaAt H'' v (f d) → R v H'') → g b x σ0 H' fun σ2 H2 => te b σ2 H2 R)
    (fin : ∀ vs H', Same H1 H' → H' D = some (.lst vs) → DaAs H' vs (ds.map f) → End H') :
    ∃ W : Nat → Nat → Hp → Prop, (∃ m, W 0 m (upd H1 D (.lst []))) ∧ ∀ b, CTurn (Itl K a) (g b) (tYes) (aPut D (te b)) σ0 End W :=
  comp_list (xs := xs) (fun i H' => ∃ vs, H' D = some (.lst vs) ∧ Same H1 H' ∧ DaAs H' vs ((ds.take i).map f)) ⟨[], upd_same, (Same.refl H1).upd hD, .nil⟩ (fun i H' _ ⟨_, _, s, _⟩ => SqL.of (s _ _ ha)) (fun H' ⟨vs, e, s, h⟩ => fin vs H' s e (by rw [hx.len, List.take_length] at h; exact h)) (fun i x H' hi hlt ⟨vs, e, s, h⟩ b => by
    obtain ⟨d, hd, hxd⟩ := hx.get hi
    refine turn x d H' (List.mem_of_getElem? hd) (hxd.same s) s b _ fun v H'' s2 hv => ⟨vs, s2 _ _ e, by have sl0 : sizeLine = 16777216 := sizeLine_eq; have := h.len; rw [List.length_map, List.length_take] at this; omega, nx hlt ?_⟩
    refine ⟨vs ++ [v], upd_same, fun c u z => by rw [upd_ne (ne_of_none z hD)]; exact (s.trans s2) c u z, ?_⟩
    have z : (ds.take (i + 1)).map f = (ds.take i).map f ++ [f d] := by rw [List.take_add_one, hd, List.map_append]; rfl
    rw [z]
    exact ((h.same s2).app (.cons hv .nil)).kp (Kp.put (s2 _ _ e)))
end
noncomputable def wRow (k j : Nat) : Da := .tup [.str ⟨#[97 + k, 97 + j]⟩, .int (3 * (j : Int))]
noncomputable def wHouse (m k : Nat) : Da := .tup [.str ⟨#[104, 97 + k]⟩, .int (-1), .int 1, .int 0, .tup [.tup ((List.range m).map (wRow k))]]
noncomputable def wideL (n m : Nat) : List Da := (List.range n).map (wHouse m)
noncomputable def letD (k : Nat) : Da := .tup [.str ⟨#[97, 97 + k / 3]⟩, .str ⟨#[98, 97 + k % 3]⟩, .int 1, .non]
noncomputable def lettersL (n : Nat) : List Da := (List.range n).map letD
theorem sign_at {z : Str} {n k : Nat} (h : (List.range n).all (fun k => decide (z.cps.toList[k]? = some (97 + k))) = true) (hk : k < n) : atI z.cps.toList (k : Int) = some (97 + k) :=
  atI_nat (of_decide_eq_true (List.all_eq_true.mp h k (List.mem_range.mpr hk)))
noncomputable def spIs : Sp := fun vs H Q _ => ∃ b c : Bool, vs = [.bl b, .bl c] ∧ Q (.bl (b == c)) H
noncomputable def spWide : Sp := fun vs H Q _ => ∃ n m : Nat, vs = [.int (n : Int), .int (m : Int)] ∧ n ≤ 8 ∧ m ≤ 25 ∧ ∀ x H', DaAt H' x (.tup (wideL n m)) → Same H H' → Q x H'
noncomputable def spLettersOf : Sp := fun vs H Q _ => ∃ n : Nat, vs = [.int (n : Int)] ∧ n ≤ 25 ∧ ∀ x H', DaAt H' x (.tup (lettersL n)) → Same H H' → Q x H'
section
variable {P : Program} {w : World} {K : PySem.W.Frag} {mg : Str → Option Value} {base : Heap} {t8 t6 tR tL : Tok}
theorem sc_is : FnScope ["_law_found", "_law_due"] ["_law_found", "_law_due"] (defScope sIs) := ⟨rfl, rfl, rfl, by decide +kernel, rfl, by decide +kernel, by decide +kernel⟩
theorem ok_is {f : Addr} {fd : FuncData} (F : Fun K "_law_is" "_law_is" sIs f fd) (T : Txt mg t8 t6 tR tL) : FnOk P w K mg base CX0 1 f fd ["_law_found", "_law_due"] spIs := by
  refine F.ok sc_is (fun vs H Q E h => ?_) (fun cdv A outer s H vs Q E hr h => ?_)
  · obtain ⟨b, c, rfl, _⟩ := h
    rfl
  · obtain ⟨b, c, rfl, q⟩ := h
    refine ⟨_, (pss_one (ps_ret (peAnd (pe_callB call_isi rfl T.isi PyProof.Rows.boot_isinstance (pa_cons (pV 0) (pa_cons (pe_bltn (v := .ty "bool") rfl T.bool PyProof.Rows.boot_bool rfl) pa_nil))) (pe_one (pe_cmpR op_eq (pV 0) (pV 1) (nomark _)))))), ?_⟩
    refine ⟨.bl b, _, _, _, rfl, .bl b, (kit8 (K := K) (TyOf.bl (H := H) b)).2.1, ?_⟩
    refine ⟨rfl, ?_⟩
    have e : decide (V.bl b = V.bl c) = (b == c) := by cases b <;> cases c <;> rfl
    rw [e]
    exact q
theorem sc_wide : FnScope ["_law_houses", "_law_rows_here", "_law_found", "_law_k", "_law_run"] ["_law_houses", "_law_rows_here"] (defScope sWide) := ⟨rfl, rfl, rfl, by decide +kernel, rfl, by decide +kernel, by decide +kernel⟩
theorem ok_wide {f : Addr} {fd : FuncData} (F : Fun K "_law_wide" "_law_wide" sWide f fd) (T : Txt mg t8 t6 tR tL) : FnOk P w K mg base CX0 1 f fd ["_law_houses", "_law_rows_here"] spWide := by
  refine F.ok sc_wide (fun vs H Q E h => ?_) (fun cdv A outer s H vs Q E hr h => ?_)
  · obtain ⟨n, m, rfl, _⟩ := h
    rfl
  · obtain ⟨n, m, rfl, hn, hm, q⟩ := h
    have sl0 : sizeLine = 16777216 := sizeLine_eq
    refine ⟨_, (SSs.h (qss_cons (qs_set (i := 2) sc_wide.nd rfl (Or.inl rfl) (qe_lst qa_nil)) (qss_cons (qs_for PassesOwn.never rfl (qi_range1 rfl T.range (qa_cons (qV 0) qa_nil)) (qg_name (i := 3) sc_wide.nd rfl (Or.inr rfl)) (qss_cons (qs_set (i := 4) sc_wide.nd rfl (Or.inl rfl) (qe_callTy ⟨call_tuple_of⟩ rfl T.tuple PyProof.Rows.boot_tuple (qa_cons (qe_comp (scX := defScope sWide) (own := ["_law_j"]) (cap := ["_law_k"]) (ix := [3]) rfl rfl ⟨rfl, by decide +kernel, by decide +kernel, by decide +kernel, rfl, by decide +kernel⟩ (qi_range1 rfl T.range (qa_cons (qV 1) qa_nil)) (fun b => (qg_name (i := 0) (show (["_law_j", "_law_k"] : List Str).Nodup by decide +kernel) rfl (Or.inl rfl))) (fun b => qif_nil) (fun b => (qe_tup (qa_cons (qe_op ⟨oCat⟩ (qe_ix ⟨iIxS⟩ qe_str (qV 1) (fun _ _ => rfl)) (qe_ix ⟨iIxS⟩ qe_str (qV 0) (fun _ _ => rfl))) (qa_cons (qe_op ⟨oMul⟩ qe_int (qV 0)) qa_nil))))) qa_nil))) (qss_one (qs_expr (qe_bm PySem.F.plainAttrs_list PySem.F.slot_list_append PySem.F.type_list_append ⟨mt_append⟩ (qV 2) (qa_cons (qe_tup (qa_cons (qe_op ⟨oCat⟩ qe_str (qe_ix ⟨iIxS⟩ qe_str (qV 3) (fun _ _ => rfl))) (qa_cons (qe_un ⟨uNeg⟩ qe_int) (qa_cons qe_int (qa_cons qe_int (qa_cons (qe_tup (qa_cons (qV 4) qa_nil)) qa_nil)))))) qa_nil)))))) (qss_one (qs_ret (qe_callTy ⟨call_tuple_of⟩ rfl T.tuple PyProof.Rows.boot_tuple (qa_cons (qV 2) qa_nil))))))), ?_⟩
    refine ⟨Nat.zero_le _, fun D hD => ?_⟩
    have cA : (List.range 8).all (fun k => decide (("abcdefgh" : Str).cps.toList[k]? = some (97 + k))) = true := by decide +kernel
    have cB : (List.range 25).all (fun k => decide (("abcdefghijklmnopqrstuvwxy" : Str).cps.toList[k]? = some (97 + k))) = true := by decide +kernel
    refine ⟨(n : Int), rfl, by omega, by omega, for_range (lo := 0) (n := ((n : Int)).toNat) (fun i σ H' => ∃ (o3 o4 : Option V) (vs : List V), σ = [some (.int (n : Int)), some (.int (m : Int)), some (.ref D), o3, o4] ∧ H' D = some (.lst vs) ∧ Same H H' ∧ DaAs H' vs ((List.range i).map (wHouse m))) ⟨none, none, [], rfl, upd_same, (Same.refl H).upd hD, .nil⟩ (fun i σ H' hi hz36 => ?_) (fun σ H' hz37 => ?_)⟩
    · refine hideP fun Rz0 hRz0 => ?_
      obtain ⟨o3, o4, vs, eσ, eD, S, hv⟩ := hz36
      subst hRz0
      subst eσ
      have hi' : i < 8 := by omega
      refine ⟨(m : Int), rfl, by omega, by omega, fun L hL => comp_rangeD (n := ((m : Int)).toNat) (f := wRow i) hL (by omega) (fun j H2 hj s2 b R hR => ?_) (fun us H2 s2 eL hu => ?_)⟩
      · have hj' : j < 25 := by omega
        refine ixStr (z := "abcdefgh") (by rw [show ("abcdefgh" : Str).length = 8 by decide +kernel]; omega) (by rw [Int.zero_add]; exact sign_at cA hi') ?_
        refine ixStr (z := "abcdefghijklmnopqrstuvwxy") (by rw [show ("abcdefghijklmnopqrstuvwxy" : Str).length = 25 by decide +kernel]; omega) (by rw [Int.zero_add]; exact sign_at cB hj') ?_
        refine ⟨by show 1 + 1 ≤ sizeLine; omega, ?_⟩
        refine ⟨.inl ⟨by decide, by decide⟩, ?_⟩
        refine ⟨by show 2 ≤ sizeLine; omega, fun p hp => ?_⟩
        refine hR _ _ ((Same.refl H2).upd hp) (.tup upd_same (show 2 ≤ 25 by decide) (.cons ?_ (.cons ?_ .nil)))
        · show DaAt _ (.str ⟨#[97 + i, 97 + j]⟩) (.str ⟨#[97 + i, 97 + j]⟩)
          exact .str _ (by show 2 ≤ sizeLine; omega)
        · generalize upd H2 p _ = HX
          show DaAt HX (.int (3 * (0 + (j : Int)))) (.int (3 * (j : Int)))
          rw [Int.zero_add]
          exact .int _
      · refine ⟨L, us, rfl, .inl ⟨SqL.of eL, fun t ft => ?_⟩⟩
        have S2 : Same H' (upd H2 t (.tup us)) := s2.upd ft
        have eD2 := S2 _ _ eD
        have lu := hu.len
        rw [List.length_map, List.length_range] at lu
        have rt : DaAt (upd H2 t (.tup us)) (.ref t) (.tup ((List.range m).map (wRow i))) := .tup upd_same (by omega) (by simpa using hu.same ((Same.refl H2).upd ft))
        refine ⟨.inl ⟨rfl, _, SqL.of eD2⟩, ?_⟩
        refine ixStr (z := "abcdefgh") (by rw [show ("abcdefgh" : Str).length = 8 by decide +kernel]; omega) (by rw [Int.zero_add]; exact sign_at cA hi') ?_
        refine ⟨by show 1 + 1 ≤ sizeLine; omega, ?_⟩
        refine ⟨by show 1 ≤ sizeLine; omega, fun p1 hp1 => ?_⟩
        have s3 : Same (upd H2 t (.tup us)) (upd (upd H2 t (.tup us)) p1 (.tup [.ref t])) := (Same.refl _).upd hp1
        generalize eH3 : upd (upd H2 t (.tup us)) p1 (.tup [.ref t]) = H3 at s3
        have e1 : H3 p1 = some (.tup [.ref t]) := by rw [← eH3]; exact upd_same
        refine ⟨by show 5 ≤ sizeLine; omega, fun p2 hp2 => ?_⟩
        have s4 : Same H3 (upd H3 p2 (.tup [.str ("h" ++ ⟨#[97 + i]⟩), .int (-1), .int 1, .int 0, .ref p1])) := (Same.refl _).upd hp2
        have lv := hv.len
        rw [List.length_map, List.length_range] at lv
        have eD4 := s4 _ _ (s3 _ _ eD2)
        refine ⟨D, vs, _, rfl, rfl, eD4, by omega, _, _, vs ++ [.ref p2], rfl, upd_same, fun c u z => ?_, ?_⟩
        · rw [upd_ne (ne_of_none z hD)]; exact s4 _ _ (s3 _ _ (S2 _ _ (S _ _ z)))
        · rw [List.range_succ, List.map_append]
          refine (((hv.same (S2.trans (s3.trans s4)))).app (.cons ?_ .nil)).kp (Kp.put eD4)
          refine .tup upd_same (show 5 ≤ 25 by decide) (.cons (show DaAt _ (.str ⟨#[104, 97 + i]⟩) (.str ⟨#[104, 97 + i]⟩) from .str _ (by show 2 ≤ sizeLine; omega)) (.cons (.int _) (.cons (.int _) (.cons (.int _) (.cons ?_ .nil)))))
          exact .tup (s4 _ _ e1) (show 1 ≤ 25 by decide) (.cons (rt.same (s3.trans s4)) .nil)
    · refine hideP fun Rz0 hRz0 => ?_
      obtain ⟨o3, o4, vs, eσ, eD, S, hv⟩ := hz37
      subst hRz0
      subst eσ
      have lv := hv.len
      rw [List.length_map, List.length_range] at lv
      refine ⟨D, vs, rfl, .inl ⟨SqL.of eD, fun t ft => ?_⟩⟩
      exact q _ _ (.tup upd_same (by omega) (by simpa [wideL] using hv.same ((Same.refl H').upd ft))) (S.upd ft)
theorem sc_lettersof : FnScope ["_law_amount", "_law_found", "_law_k"] ["_law_amount"] (defScope sLettersOf) := ⟨rfl, rfl, rfl, by decide +kernel, rfl, by decide +kernel, by decide +kernel⟩
theorem ok_lettersof {f : Addr} {fd : FuncData} (F : Fun K "_law_letters_of" "_law_letters_of" sLettersOf f fd) (T : Txt mg t8 t6 tR tL) : FnOk P w K mg base CX0 1 f fd ["_law_amount"] spLettersOf := by
  refine F.ok sc_lettersof (fun vs H Q E h => ?_) (fun cdv A outer s H vs Q E hr h => ?_)
  · obtain ⟨n, rfl, _⟩ := h
    rfl
  · obtain ⟨n, rfl, hn, q⟩ := h
    have sl0 : sizeLine = 16777216 := sizeLine_eq
    refine ⟨_, (SSs.h (qss_cons (qs_set (i := 1) sc_lettersof.nd rfl (Or.inl rfl) (qe_lst qa_nil)) (qss_cons (qs_for PassesOwn.never rfl (qi_range1 rfl T.range (qa_cons (qV 0) qa_nil)) (qg_name (i := 2) sc_lettersof.nd rfl (Or.inl rfl)) (qss_one (qs_expr (qe_bm PySem.F.plainAttrs_list PySem.F.slot_list_append PySem.F.type_list_append ⟨mt_append⟩ (qV 1) (qa_cons (qe_tup (qa_cons (qe_op ⟨oCat⟩ qe_str (qe_ix ⟨iIxS⟩ qe_str (qe_op ⟨oDiv⟩ (qV 2) qe_int) (fun _ _ => rfl))) (qa_cons (qe_op ⟨oCat⟩ qe_str (qe_ix ⟨iIxS⟩ qe_str (qe_op ⟨oMod⟩ (qV 2) qe_int) (fun _ _ => rfl))) (qa_cons qe_int (qa_cons qe_non qa_nil))))) qa_nil))))) (qss_one (qs_ret (qe_callTy ⟨call_tuple_of⟩ rfl T.tuple PyProof.Rows.boot_tuple (qa_cons (qV 1) qa_nil))))))), ?_⟩
    refine ⟨Nat.zero_le _, fun D hD => ?_⟩
    have cA : (List.range 12).all (fun k => decide (("abcdefghijkl" : Str).cps.toList[k]? = some (97 + k))) = true := by decide +kernel
    have lA : ("abcdefghijkl" : Str).length ≤ sizeLine := by rw [show ("abcdefghijkl" : Str).length = 12 by decide +kernel]; omega
    refine ⟨(n : Int), rfl, by omega, by omega, for_range (lo := 0) (n := ((n : Int)).toNat) (fun i σ H' => ∃ (o2 : Option V) (vs : List V), σ = [some (.int (n : Int)), some (.ref D), o2] ∧ H' D = some (.lst vs) ∧ Same H H' ∧ DaAs H' vs ((List.range i).map letD)) ⟨none, [], rfl, upd_same, (Same.refl H).upd hD, .nil⟩ (fun i σ H' hi hz38 => ?_) (fun σ H' hz39 => ?_)⟩
    · refine hideP fun Rz0 hRz0 => ?_
      obtain ⟨o2, vs, eσ, eD, S, hv⟩ := hz38
      subst hRz0
      subst eσ
      refine ⟨.inl ⟨rfl, _, SqL.of eD⟩, ?_⟩
      refine ⟨⟨by decide, by decide⟩, ?_⟩
      refine ixStr (z := "abcdefghijkl") lA (c := 97 + i / 3) (by rw [show (0 + (i : Int)) / 3 = ((i / 3 : Nat) : Int) by omega]; exact sign_at cA (by omega)) ?_
      refine ⟨by show 1 + 1 ≤ sizeLine; omega, ?_⟩
      refine ⟨by show (0 : Int) < 3; decide, ?_⟩
      refine ixStr (z := "abcdefghijkl") lA (c := 97 + i % 3) (by rw [show (0 + (i : Int)) % 3 = ((i % 3 : Nat) : Int) by omega]; exact sign_at cA (by omega)) ?_
      refine ⟨by show 1 + 1 ≤ sizeLine; omega, ?_⟩
      refine ⟨by show 4 ≤ sizeLine; omega, fun p hp => ?_⟩
      have s4 : Same H' (upd H' p (.tup [.str ("a" ++ ⟨#[97 + i / 3]⟩), .str ("b" ++ ⟨#[97 + i % 3]⟩), .int 1, .non])) := (Same.refl _).upd hp
      have lv := hv.len
      rw [List.length_map, List.length_range] at lv
      have eD4 := s4 _ _ eD
      refine ⟨D, vs, _, rfl, rfl, eD4, by omega, _, vs ++ [.ref p], rfl, upd_same, fun c u z => ?_, ?_⟩
      · rw [upd_ne (ne_of_none z hD)]; exact s4 _ _ (S _ _ z)
      · rw [List.range_succ, List.map_append]
        refine ((hv.same s4).app (.cons ?_ .nil)).kp (Kp.put eD4)
        exact .tup upd_same (show 4 ≤ 25 by decide) (.cons (show DaAt _ (.str ⟨#[97, 97 + i / 3]⟩) (.str ⟨#[97, 97 + i / 3]⟩) from .str _ (by show 2 ≤ sizeLine; omega)) (.cons (show DaAt _ (.str ⟨#[98, 97 + i % 3]⟩) (.str ⟨#[98, 97 + i % 3]⟩) from .str _ (by show 2 ≤ sizeLine; omega)) (.cons (.int _) (.cons .non .nil))))
    · refine hideP fun Rz0 hRz0 => ?_
      obtain ⟨o2, vs, eσ, eD, S, hv⟩ := hz39
      subst hRz0
      subst eσ
      have lv := hv.len
      rw [List.length_map, List.length_range] at lv
      refine ⟨D, vs, rfl, .inl ⟨SqL.of eD, fun t ft => ?_⟩⟩
      exact q _ _ (.tup upd_same (by omega) (by simpa [lettersL] using hv.same ((Same.refl H').upd ft))) (S.upd ft)
end
end K02
namespace K02
open PySem L2
noncomputable def spNoHouses : Sp := fun vs H Q _ => ∃ (x y : V) (hs : List House) (h : House) (k : Nat), vs = [x, .int (k : Int), y] ∧ hs[k]? = some h ∧ DaAt H x (houseDa h) ∧ DaAt H y (housesDa hs) ∧ GoodHouses hs ∧
  ∀ (l : Addr) (us : List V) (ds : List Da) (H' : Hp), H' l = some (.lst us) → DaAs H' us ds → ds.length ≤ 1000 → (∀ d ∈ ds, housesD d = false) → Same H H' → Q (.ref l) H'
section
variable {P : Program} {w : World} {K : PySem.W.Frag} {mg : Str → Option Value} {base : Heap} {t8 t6 tR tL : Tok}
theorem sc_nohouses : FnScope ["_law_house_here", "_law_at", "_law_houses", "_law_name", "_law_low", "_law_high", "_law_drift", "_law_runs", "_law_found", "_law_odd", "_law_odds", "_law_second"] ["_law_house_here", "_law_at", "_law_houses"] (defScope sNoHouses) := ⟨rfl, rfl, rfl, by decide +kernel, rfl, by decide +kernel, by decide +kernel⟩
theorem ok_nohouses {f : Addr} {fd : FuncData} (F : Fun K "_law_no_houses" "_law_no_houses" sNoHouses f fd) (T : Txt mg t8 t6 tR tL) : FnOk P w K mg base CX0 1 f fd ["_law_house_here", "_law_at", "_law_houses"] spNoHouses := by
  refine F.ok sc_nohouses (fun vs H Q E h => ?_) (fun cdv A outer s H vs Q E hr h => ?_)
  · obtain ⟨x, y, hs, h, k, rfl, _⟩ := h
    rfl
  · obtain ⟨x, y, hs, h, k, rfl, hk, hX0, hY0, gh, q⟩ := h
    have sl0 : sizeLine = 16777216 := sizeLine_eq
    have hm := List.mem_of_getElem? hk
    have gd := gh.all h hm
    have lr : h.runs.length ≤ 24 := runs_few gh hm
    have lh : hs.length ≤ 6 := gh.hi
    have hX : DaAt H x (.tup [.str h.name, .int h.low, .int h.high, .int h.drift, .tup (h.runs.map runDa)]) := hX0
    have hY : DaAt H y (.tup (hs.map houseDa)) := hY0
    obtain ⟨a, us, rfl, ea, _, ru⟩ := hX.tupE
    obtain ⟨v1, v2, v3, v4, v5, rfl, q1, q2, q3, q4, hR⟩ := ru.five
    cases q2
    cases q3
    cases q4
    have hN : DaAt H v1 (.str h.name) := q1
    refine ⟨_, (SSs.h (qss_cons (qs_asg (qV 0) (qg_tup rfl (qgs_cons (qg_name (i := 3) sc_nohouses.nd rfl (Or.inl rfl)) (qgs_cons (qg_name (i := 4) sc_nohouses.nd rfl (Or.inl rfl)) (qgs_cons (qg_name (i := 5) sc_nohouses.nd rfl (Or.inl rfl)) (qgs_cons (qg_name (i := 6) sc_nohouses.nd rfl (Or.inl rfl)) (qgs_cons (qg_name (i := 7) sc_nohouses.nd rfl (Or.inl rfl)) qgs_nil))))))) (qss_cons (qs_set (i := 8) sc_nohouses.nd rfl (Or.inl rfl) (qe_lst (qa_cons (qe_callTy ⟨call_list_of⟩ rfl T.list PyProof.Rows.boot_list (qa_cons (qV 0) qa_nil)) (qa_cons (qe_slice ⟨iSlA⟩ (qV 0) qo_none (qoI qe_int)) (qa_cons (qe_op ⟨oCatA⟩ (qV 0) (qe_tup (qa_cons qe_int qa_nil))) (qa_cons qe_non (qa_cons (qV 3) (qa_cons (qe_tup qa_nil) (qa_cons (qe_tup (qa_cons (qV 3) (qa_cons (qe_op ⟨oAdd⟩ (qV 5) qe_int) (qa_cons (qV 5) (qa_cons (qV 6) (qa_cons (qV 7) qa_nil)))))) qa_nil))))))))) (qss_cons (qs_for PassesOwn.never rfl (qi_list (qe_lst (qa_cons qe_non (qa_cons qe_bl (qa_cons qe_str (qa_cons (qe_tup (qa_cons qe_int qa_nil)) (qa_cons (qe_lst (qa_cons qe_int qa_nil)) qa_nil))))))) (qg_name (i := 9) sc_nohouses.nd rfl (Or.inl rfl)) (qss_one (qs_set (i := 8) sc_nohouses.nd rfl (Or.inl rfl) (qe_op ⟨op_cat⟩ (qV 8) (qe_lst (qa_cons (qe_tup (qa_cons (qV 3) (qa_cons (qV 9) (qa_cons (qV 5) (qa_cons (qV 6) (qa_cons (qV 7) qa_nil)))))) (qa_cons (qe_tup (qa_cons (qV 3) (qa_cons (qV 4) (qa_cons (qV 9) (qa_cons (qV 6) (qa_cons (qV 7) qa_nil)))))) (qa_cons (qe_tup (qa_cons (qV 3) (qa_cons (qV 4) (qa_cons (qV 5) (qa_cons (qV 9) (qa_cons (qV 7) qa_nil)))))) qa_nil)))))))) (qss_cons (qs_for PassesOwn.never rfl (qi_list (qe_lst (qa_cons qe_str (qa_cons qe_str (qa_cons qe_str (qa_cons qe_non (qa_cons qe_int (qa_cons (qe_tup (qa_cons (qV 3) qa_nil)) qa_nil)))))))) (qg_name (i := 9) sc_nohouses.nd rfl (Or.inl rfl)) (qss_one (qs_expr (qe_bm PySem.F.plainAttrs_list PySem.F.slot_list_append PySem.F.type_list_append ⟨mt_append⟩ (qV 8) (qa_cons (qe_tup (qa_cons (qV 9) (qa_cons (qV 4) (qa_cons (qV 5) (qa_cons (qV 6) (qa_cons (qV 7) qa_nil)))))) qa_nil))))) (qss_cons (qs_set (i := 8) sc_nohouses.nd rfl (Or.inl rfl) (qe_op ⟨op_cat⟩ (qV 8) (qe_lst (qa_cons (qe_tup (qa_cons (qV 3) (qa_cons (qV 4) (qa_cons (qV 5) (qa_cons (qe_un ⟨uNeg⟩ qe_int) (qa_cons (qV 7) qa_nil)))))) (qa_cons (qe_tup (qa_cons (qV 3) (qa_cons (qV 4) (qa_cons (qV 5) (qa_cons (qV 6) (qa_cons (qe_callTy ⟨call_list_of⟩ rfl T.list PyProof.Rows.boot_list (qa_cons (qV 7) qa_nil)) qa_nil)))))) qa_nil))))) (qss_cons (qs_set (i := 8) sc_nohouses.nd rfl (Or.inl rfl) (qe_op ⟨op_cat⟩ (qV 8) (qe_lst (qa_cons (qe_tup (qa_cons (qV 3) (qa_cons (qV 4) (qa_cons (qV 5) (qa_cons (qV 6) (qa_cons qe_non qa_nil)))))) qa_nil)))) (qss_cons (qs_for PassesOwn.never rfl (qi_list (qe_lst (qa_cons (qe_tup qa_nil) (qa_cons (qe_lst qa_nil) (qa_cons qe_non (qa_cons (qe_tup (qa_cons (qe_tup qa_nil) qa_nil)) (qa_cons (qe_tup (qa_cons (qe_tup (qa_cons qe_str (qa_cons qe_int (qa_cons qe_int qa_nil)))) qa_nil)) (qa_cons (qe_tup (qa_cons (qe_tup (qa_cons qe_str qa_nil)) qa_nil)) (qa_cons (qe_tup (qa_cons (qe_lst (qa_cons qe_str (qa_cons qe_int qa_nil))) qa_nil)) (qa_cons (qe_tup (qa_cons (qe_tup (qa_cons qe_str (qa_cons qe_int qa_nil))) qa_nil)) (qa_cons (qe_tup (qa_cons (qe_tup (qa_cons qe_str (qa_cons qe_non qa_nil))) qa_nil)) qa_nil))))))))))) (qg_name (i := 9) sc_nohouses.nd rfl (Or.inl rfl)) (qss_one (qs_expr (qe_bm PySem.F.plainAttrs_list PySem.F.slot_list_append PySem.F.type_list_append ⟨mt_append⟩ (qV 8) (qa_cons (qe_tup (qa_cons (qV 3) (qa_cons (qV 4) (qa_cons (qV 5) (qa_cons (qV 6) (qa_cons (qe_op ⟨oCatA⟩ (qV 7) (qe_tup (qa_cons (qV 9) qa_nil))) qa_nil)))))) qa_nil))))) (qss_cons (qs_expr (qe_bm PySem.F.plainAttrs_list PySem.F.slot_list_append PySem.F.type_list_append ⟨mt_append⟩ (qV 8) (qa_cons (qe_tup (qa_cons (qV 3) (qa_cons (qV 4) (qa_cons (qV 5) (qa_cons (qV 6) (qa_cons (qe_op ⟨oCatA⟩ (qV 7) (qe_tup (qa_cons (qe_tup (qa_cons (qe_tup (qa_cons qe_str (qa_cons qe_bl qa_nil))) qa_nil)) qa_nil))) qa_nil)))))) qa_nil))) (qss_cons (qs_set (i := 10) sc_nohouses.nd rfl (Or.inl rfl) (qe_lst (qa_cons (qe_tup (qa_cons qe_str (qa_cons qe_int qa_nil))) (qa_cons (qe_tup (qa_cons qe_str (qa_cons qe_int qa_nil))) (qa_cons (qe_tup (qa_cons qe_str (qa_cons qe_int qa_nil))) (qa_cons (qe_tup (qa_cons qe_int (qa_cons qe_int qa_nil))) (qa_cons (qe_tup (qa_cons qe_non (qa_cons qe_int qa_nil))) (qa_cons (qe_tup (qa_cons (qe_tup (qa_cons qe_str qa_nil)) (qa_cons qe_int qa_nil))) (qa_cons (qe_tup (qa_cons qe_str (qa_cons qe_str qa_nil))) (qa_cons (qe_tup (qa_cons qe_str (qa_cons (qe_lst (qa_cons qe_int qa_nil)) qa_nil))) qa_nil)))))))))) (qss_cons (qs_set (i := 10) sc_nohouses.nd rfl (Or.inl rfl) (qe_op ⟨op_cat⟩ (qV 10) (qe_lst (qa_cons (qe_tup (qa_cons qe_str (qa_cons (qe_tup (qa_cons qe_int qa_nil)) qa_nil))) qa_nil)))) (qss_cons (qs_for PassesOwn.never rfl (qi_list (qV 10)) (qg_name (i := 9) sc_nohouses.nd rfl (Or.inl rfl)) (qss_one (qs_expr (qe_bm PySem.F.plainAttrs_list PySem.F.slot_list_append PySem.F.type_list_append ⟨mt_append⟩ (qV 8) (qa_cons (qe_tup (qa_cons (qV 3) (qa_cons (qV 4) (qa_cons (qV 5) (qa_cons (qV 6) (qa_cons (qe_op ⟨oCatA⟩ (qV 7) (qe_tup (qa_cons (qe_tup (qa_cons (qV 9) qa_nil)) qa_nil))) qa_nil)))))) qa_nil))))) (qss_cons (qs_for PassesOwn.never rfl (qi_list (qe_lst (qa_cons (qe_tup (qa_cons qe_str (qa_cons qe_int qa_nil))) (qa_cons (qe_tup (qa_cons qe_str (qa_cons qe_int qa_nil))) (qa_cons (qe_tup (qa_cons qe_str (qa_cons qe_int qa_nil))) qa_nil))))) (qg_name (i := 11) sc_nohouses.nd rfl (Or.inl rfl)) (qss_one (qs_expr (qe_bm PySem.F.plainAttrs_list PySem.F.slot_list_append PySem.F.type_list_append ⟨mt_append⟩ (qV 8) (qa_cons (qe_tup (qa_cons (qV 3) (qa_cons (qV 4) (qa_cons (qV 5) (qa_cons (qV 6) (qa_cons (qe_tup (qa_cons (qe_tup (qa_cons (qe_tup (qa_cons qe_str (qa_cons qe_int qa_nil))) (qa_cons (qV 11) qa_nil))) qa_nil)) qa_nil)))))) qa_nil))))) (qss_cons (qs_if (qtC ⟨(oNeT hr.units0)⟩ (qV 7) (qe_tup qa_nil) (nomark _)) (qss_one (qs_expr (qe_bm PySem.F.plainAttrs_list PySem.F.slot_list_append PySem.F.type_list_append ⟨mt_append⟩ (qV 8) (qa_cons (qe_tup (qa_cons (qV 3) (qa_cons (qV 4) (qa_cons (qV 5) (qa_cons (qV 6) (qa_cons (qe_op ⟨oCatA⟩ (qV 7) (qe_slice ⟨iSlA⟩ (qV 7) qo_none (qoI qe_int))) qa_nil)))))) qa_nil)))) qss_nil) (qss_cons (qs_setComp (i := 8) sc_nohouses.nd rfl rfl (scX := defScope sNoHouses) (own := ["_law_odd"]) (cap := ["_law_at", "_law_houses"]) (ix := [1, 2]) rfl rfl ⟨rfl, by decide +kernel, by decide +kernel, by decide +kernel, rfl, by decide +kernel⟩ (qi_list (qV 8)) (fun b => (qg_name (i := 0) (show (["_law_odd", "_law_at", "_law_houses"] : List Str).Nodup by decide +kernel) rfl (Or.inl rfl))) (fun b => qif_nil) (fun b => (qe_op ⟨oCatA⟩ (qe_op ⟨oCatA⟩ (qe_slice ⟨iSlA⟩ (qV 2) qo_none (qoI (qV 1))) (qe_tup (qa_cons (qV 0) qa_nil))) (qe_slice ⟨iSlA⟩ (qV 2) (qoI (qe_op ⟨oAdd⟩ (qV 1) qe_int)) qo_none)))) (qss_one (qs_ret (qe_op ⟨op_cat⟩ (qV 8) (qe_lst (qa_cons (qe_op ⟨oCatA⟩ (qV 2) (qe_tup (qa_cons (qV 0) qa_nil))) (qa_cons (qe_op ⟨oCatA⟩ (qe_slice ⟨iSlA⟩ (qV 2) qo_none (qoI (qe_op ⟨oAdd⟩ (qV 1) qe_int))) (qe_slice ⟨iSlA⟩ (qV 2) (qoI (qV 1)) qo_none)) qa_nil))))))))))))))))))))), ?_⟩
    refine asg_h fun Uz hUz => ?_
    refine ⟨a, _, rfl, SqT.of ea, rfl, _, _, rfl, _, _, rfl, _, _, rfl, _, _, rfl, _, _, rfl, rfl, ?_⟩
    subst hUz
    show tSeq (tAsg _ _) _ _ [some (.ref a), some (.int (k : Int)), some y, some v1, some (.int h.low), some (.int h.high), some (.int h.drift), some v5, none, none, none, none] H
    refine (set_lstS (fun z => [some (.ref a), some (.int (k : Int)), some y, some v1, some (.int h.low), some (.int h.high), some (.int h.drift), some v5, z, none, none, none]) (fun _ => rfl) (tds_cons (td_listC (td_v0 (hX.kp (Kp.refl H)))) (tds_cons (td_to (k := 4) (td_v0 (hX.kp (Kp.refl H))) (tpo_i td_int)) (tds_cons (td_cat (td_v0 (hX.kp (Kp.refl H))) (td_tup (tds_cons td_int tds_nil) (by exact Nat.le_of_ble_eq_true rfl)) (by simp only [List.length_append, List.length_map, List.length_take, List.length_drop, List.length_cons, List.length_nil, List.flatMap_cons, List.flatMap_nil]; omega)) (tds_cons td_non (tds_cons (td_v3 (hN.kp (Kp.refl H))) (tds_cons (td_tup tds_nil (by exact Nat.le_of_ble_eq_true rfl)) (tds_cons (td_tup (tds_cons (td_v3 (hN.kp (Kp.refl H))) (tds_cons (td_add (td_v5 (.int _)) td_int) (tds_cons (td_v5 (.int _)) (tds_cons (td_v6 (.int _)) (tds_cons (td_v7 (hR.kp (Kp.refl H))) tds_nil))))) (by exact Nat.le_of_ble_eq_true rfl)) tds_nil))))))) (by exact Nat.le_of_ble_eq_true rfl) fun a1 vs1 H1 fa1 s1 ea1 hv1 => ?_)
    obtain ⟨ds1, hv1, B1, l1⟩ : ∃ ds, DaAs H1 vs1 ds ∧ (∀ d ∈ ds, BadH hs k d) ∧ ds.length ≤ 10 := ⟨_, hv1, fa_cons (badH rfl) (fa_cons (badH rfl) (fa_cons (badH rfl) (fa_cons (badH rfl) (fa_cons (badH rfl) (fa_cons (badH rfl) (fa_cons (badH (hD1 (ckW (by omega)))) fa_nil)))))), by simp only [List.length_append, List.length_map, List.length_take, List.length_drop, List.length_cons, List.length_nil, List.flatMap_cons, List.flatMap_nil]; omega⟩
    have fr1 : H a1 = none := fa1
    refine (loop_catS (a := a1) (fun r z => [some (.ref a), some (.int (k : Int)), some y, some v1, some (.int h.low), some (.int h.high), some (.int h.drift), some v5, r, z, none, none]) (fun _ _ => rfl) rfl (by decide) ⟨_, rfl⟩ ea1 hv1 (tds_cons td_non (tds_cons td_bl (tds_cons (td_str (by decide +kernel)) (tds_cons (td_tup (tds_cons td_int tds_nil) (by exact Nat.le_of_ble_eq_true rfl)) (tds_cons (td_lst (tds_cons td_int tds_nil) (by exact Nat.le_of_ble_eq_true rfl)) tds_nil))))) (by simp only [List.length_append, List.length_map, List.length_take, List.length_drop, List.length_cons, List.length_nil, List.flatMap_cons, List.flatMap_nil]; omega) (by exact Nat.le_of_ble_eq_true rfl) (fun x d r H' hd s hx => (tds_cons (td_tup (tds_cons (td_v3 (hN.kp ((Kp.of s1).trans (Kp.of s)))) (tds_cons (td_v9 hx) (tds_cons (td_v5 (.int _)) (tds_cons (td_v6 (.int _)) (tds_cons (td_v7 (hR.kp ((Kp.of s1).trans (Kp.of s)))) tds_nil))))) (by exact Nat.le_of_ble_eq_true rfl)) (tds_cons (td_tup (tds_cons (td_v3 (hN.kp ((Kp.of s1).trans (Kp.of s)))) (tds_cons (td_v4 (.int _)) (tds_cons (td_v9 hx) (tds_cons (td_v6 (.int _)) (tds_cons (td_v7 (hR.kp ((Kp.of s1).trans (Kp.of s)))) tds_nil))))) (by exact Nat.le_of_ble_eq_true rfl)) (tds_cons (td_tup (tds_cons (td_v3 (hN.kp ((Kp.of s1).trans (Kp.of s)))) (tds_cons (td_v4 (.int _)) (tds_cons (td_v5 (.int _)) (tds_cons (td_v9 hx) (tds_cons (td_v7 (hR.kp ((Kp.of s1).trans (Kp.of s)))) tds_nil))))) (by exact Nat.le_of_ble_eq_true rfl)) tds_nil)))) (fun o2 a2 H2 vs2 s2 ea2 hv2 fr => ?_))
    obtain ⟨ds2, hv2, B2, l2⟩ : ∃ ds, DaAs H2 vs2 ds ∧ (∀ d ∈ ds, BadH hs k d) ∧ ds.length ≤ 30 := ⟨_, hv2, fa_app B1 (fa_flat (q := fun d => isWD d = false) (fa_cons rfl (fa_cons rfl (fa_cons rfl (fa_cons rfl (fa_cons rfl fa_nil))))) fun d w => fa_cons (badH (hD1 (ckL w))) (fa_cons (badH (hD1 (ckH w))) (fa_cons (badH (hD1 (ckD w))) fa_nil))), by simp only [List.length_append, List.length_map, List.length_take, List.length_drop, List.length_cons, List.length_nil, List.flatMap_cons, List.flatMap_nil]; omega⟩
    have fr2 : H a2 = none := fr.elim (fun e => e ▸ fr1) (fresh_up s1)
    have S2 : Same H H2 := s1.trans s2
    refine (loop_appS (a := a2) (fun z => [some (.ref a), some (.int (k : Int)), some y, some v1, some (.int h.low), some (.int h.high), some (.int h.drift), some v5, some (.ref a2), z, none, none]) (fun _ => rfl) rfl (by decide) ⟨_, rfl⟩ ea2 hv2 (tds_cons (td_str (by decide +kernel)) (tds_cons (td_str (by decide +kernel)) (tds_cons (td_str (by decide +kernel)) (tds_cons td_non (tds_cons td_int (tds_cons (td_tup (tds_cons (td_v3 (hN.kp (Kp.of S2))) tds_nil) (by exact Nat.le_of_ble_eq_true rfl)) tds_nil)))))) (by simp only [List.length_append, List.length_map, List.length_take, List.length_drop, List.length_cons, List.length_nil, List.flatMap_cons, List.flatMap_nil]; omega) (fun x d H' hd kp hx => (td_tup (tds_cons (td_v9 hx) (tds_cons (td_v4 (.int _)) (tds_cons (td_v5 (.int _)) (tds_cons (td_v6 (.int _)) (tds_cons (td_v7 (hR.kp ((Kp.of S2).trans kp))) tds_nil))))) (by exact Nat.le_of_ble_eq_true rfl))) (fun o3 H3 vs3 k3 sb3 ea3 hv3 => ?_))
    obtain ⟨ds3, hv3, B3, l3⟩ : ∃ ds, DaAs H3 vs3 ds ∧ (∀ d ∈ ds, BadH hs k d) ∧ ds.length ≤ 40 := ⟨_, hv3, fa_app B2 (fa_map (q := fun d => isND d = false) (fa_cons (by decide +kernel) (fa_cons (by decide +kernel) (fa_cons (by decide +kernel) (fa_cons rfl (fa_cons rfl (fa_cons rfl fa_nil)))))) fun d w => badH (hD1 (ckN w))), by simp only [List.length_append, List.length_map, List.length_take, List.length_drop, List.length_cons, List.length_nil, List.flatMap_cons, List.flatMap_nil]; omega⟩
    have S3 : Same H H3 := same_new S2 fr2 sb3
    refine (set_catS (a := a2) (fun z => [some (.ref a), some (.int (k : Int)), some y, some v1, some (.int h.low), some (.int h.high), some (.int h.drift), some v5, z, o3, none, none]) (fun _ => rfl) rfl ea3 hv3 (tds_cons (td_tup (tds_cons (td_v3 (hN.kp (Kp.of S3))) (tds_cons (td_v4 (.int _)) (tds_cons (td_v5 (.int _)) (tds_cons (td_neg rfl td_int) (tds_cons (td_v7 (hR.kp (Kp.of S3))) tds_nil))))) (by exact Nat.le_of_ble_eq_true rfl)) (tds_cons (td_tup (tds_cons (td_v3 (hN.kp (Kp.of S3))) (tds_cons (td_v4 (.int _)) (tds_cons (td_v5 (.int _)) (tds_cons (td_v6 (.int _)) (tds_cons (td_listC (td_v7 (hR.kp (Kp.of S3)))) tds_nil))))) (by exact Nat.le_of_ble_eq_true rfl)) tds_nil)) (by simp only [List.length_append, List.length_map, List.length_take, List.length_drop, List.length_cons, List.length_nil, List.flatMap_cons, List.flatMap_nil]; omega) fun a4 vs4 H4 fa4 s4 ea4 hv4 => ?_)
    obtain ⟨ds4, hv4, B4, l4⟩ : ∃ ds, DaAs H4 vs4 ds ∧ (∀ d ∈ ds, BadH hs k d) ∧ ds.length ≤ 50 := ⟨_, hv4, fa_app B3 (fa_cons (badH (hD1 (ckM (by decide)))) (fa_cons (badH (hD2 rfl)) fa_nil)), by simp only [List.length_append, List.length_map, List.length_take, List.length_drop, List.length_cons, List.length_nil, List.flatMap_cons, List.flatMap_nil]; omega⟩
    have S4 : Same H H4 := S3.trans s4
    refine (set_catS (a := a4) (fun z => [some (.ref a), some (.int (k : Int)), some y, some v1, some (.int h.low), some (.int h.high), some (.int h.drift), some v5, z, o3, none, none]) (fun _ => rfl) rfl ea4 hv4 (tds_cons (td_tup (tds_cons (td_v3 (hN.kp (Kp.of S4))) (tds_cons (td_v4 (.int _)) (tds_cons (td_v5 (.int _)) (tds_cons (td_v6 (.int _)) (tds_cons td_non tds_nil))))) (by exact Nat.le_of_ble_eq_true rfl)) tds_nil) (by simp only [List.length_append, List.length_map, List.length_take, List.length_drop, List.length_cons, List.length_nil, List.flatMap_cons, List.flatMap_nil]; omega) fun a5 vs5 H5 fa5 s5 ea5 hv5 => ?_)
    obtain ⟨ds5, hv5, B5, l5⟩ : ∃ ds, DaAs H5 vs5 ds ∧ (∀ d ∈ ds, BadH hs k d) ∧ ds.length ≤ 60 := ⟨_, hv5, fa_app B4 (fa_cons (badH (hD2 rfl)) fa_nil), by simp only [List.length_append, List.length_map, List.length_take, List.length_drop, List.length_cons, List.length_nil, List.flatMap_cons, List.flatMap_nil]; omega⟩
    have S5 : Same H H5 := S4.trans s5
    have fr5 : H a5 = none := fresh_up S4 fa5
    refine (loop_appS (a := a5) (fun z => [some (.ref a), some (.int (k : Int)), some y, some v1, some (.int h.low), some (.int h.high), some (.int h.drift), some v5, some (.ref a5), z, none, none]) (fun _ => rfl) rfl (by decide) ⟨_, rfl⟩ ea5 hv5 (tds_cons (td_tup tds_nil (by exact Nat.le_of_ble_eq_true rfl)) (tds_cons (td_lst tds_nil (by exact Nat.le_of_ble_eq_true rfl)) (tds_cons td_non (tds_cons (td_tup (tds_cons (td_tup tds_nil (by exact Nat.le_of_ble_eq_true rfl)) tds_nil) (by exact Nat.le_of_ble_eq_true rfl)) (tds_cons (td_tup (tds_cons (td_tup (tds_cons (td_str (by decide +kernel)) (tds_cons td_int (tds_cons td_int tds_nil))) (by exact Nat.le_of_ble_eq_true rfl)) tds_nil) (by exact Nat.le_of_ble_eq_true rfl)) (tds_cons (td_tup (tds_cons (td_tup (tds_cons (td_str (by decide +kernel)) tds_nil) (by exact Nat.le_of_ble_eq_true rfl)) tds_nil) (by exact Nat.le_of_ble_eq_true rfl)) (tds_cons (td_tup (tds_cons (td_lst (tds_cons (td_str (by decide +kernel)) (tds_cons td_int tds_nil)) (by exact Nat.le_of_ble_eq_true rfl)) tds_nil) (by exact Nat.le_of_ble_eq_true rfl)) (tds_cons (td_tup (tds_cons (td_tup (tds_cons (td_str (by decide +kernel)) (tds_cons td_int tds_nil)) (by exact Nat.le_of_ble_eq_true rfl)) tds_nil) (by exact Nat.le_of_ble_eq_true rfl)) (tds_cons (td_tup (tds_cons (td_tup (tds_cons (td_str (by decide +kernel)) (tds_cons td_non tds_nil)) (by exact Nat.le_of_ble_eq_true rfl)) tds_nil) (by exact Nat.le_of_ble_eq_true rfl)) tds_nil))))))))) (by simp only [List.length_append, List.length_map, List.length_take, List.length_drop, List.length_cons, List.length_nil, List.flatMap_cons, List.flatMap_nil]; omega) (fun x d H' hd kp hx => (td_tup (tds_cons (td_v3 (hN.kp ((Kp.of S5).trans kp))) (tds_cons (td_v4 (.int _)) (tds_cons (td_v5 (.int _)) (tds_cons (td_v6 (.int _)) (tds_cons (td_cat (td_v7 (hR.kp ((Kp.of S5).trans kp))) (td_tup (tds_cons (td_v9 hx) tds_nil) (by exact Nat.le_of_ble_eq_true rfl)) (by simp only [List.length_append, List.length_map, List.length_take, List.length_drop, List.length_cons, List.length_nil, List.flatMap_cons, List.flatMap_nil]; omega)) tds_nil))))) (by exact Nat.le_of_ble_eq_true rfl))) (fun o6 H6 vs6 k6 sb6 ea6 hv6 => ?_))
    obtain ⟨ds6, hv6, B6, l6⟩ : ∃ ds, DaAs H6 vs6 ds ∧ (∀ d ∈ ds, BadH hs k d) ∧ ds.length ≤ 80 := ⟨_, hv6, fa_app B5 (fa_map (q := fun d => runD d = false) (fa_cons rfl (fa_cons rfl (fa_cons rfl (fa_cons (by decide +kernel) (fa_cons (by decide +kernel) (fa_cons (by decide +kernel) (fa_cons (by decide +kernel) (fa_cons (by decide +kernel) (fa_cons (by decide +kernel) fa_nil))))))))) fun d w => badH (hD2 (rnO w))), by simp only [List.length_append, List.length_map, List.length_take, List.length_drop, List.length_cons, List.length_nil, List.flatMap_cons, List.flatMap_nil]; omega⟩
    have S6 : Same H H6 := same_new S5 fr5 sb6
    refine (do_appS (a := a5) rfl ea6 hv6 (by omega) (td_tup (tds_cons (td_v3 (hN.kp (Kp.of S6))) (tds_cons (td_v4 (.int _)) (tds_cons (td_v5 (.int _)) (tds_cons (td_v6 (.int _)) (tds_cons (td_cat (td_v7 (hR.kp (Kp.of S6))) (td_tup (tds_cons (td_tup (tds_cons (td_tup (tds_cons (td_str (by decide +kernel)) (tds_cons td_bl tds_nil)) (by exact Nat.le_of_ble_eq_true rfl)) tds_nil) (by exact Nat.le_of_ble_eq_true rfl)) tds_nil) (by exact Nat.le_of_ble_eq_true rfl)) (by simp only [List.length_append, List.length_map, List.length_take, List.length_drop, List.length_cons, List.length_nil, List.flatMap_cons, List.flatMap_nil]; omega)) tds_nil))))) (by exact Nat.le_of_ble_eq_true rfl)) fun H7 vs7 k7 sb7 ea7 hv7 => ?_)
    obtain ⟨ds7, hv7, B7, l7⟩ : ∃ ds, DaAs H7 vs7 ds ∧ (∀ d ∈ ds, BadH hs k d) ∧ ds.length ≤ 90 := ⟨_, hv7, fa_app B6 (fa_cons (badH (hD2 (rnO (by decide +kernel)))) fa_nil), by simp only [List.length_append, List.length_map, List.length_take, List.length_drop, List.length_cons, List.length_nil, List.flatMap_cons, List.flatMap_nil]; omega⟩
    have S7 : Same H H7 := same_new S6 fr5 sb7
    refine (set_lstS (fun z => [some (.ref a), some (.int (k : Int)), some y, some v1, some (.int h.low), some (.int h.high), some (.int h.drift), some v5, some (.ref a5), o6, z, none]) (fun _ => rfl) (tds_cons (td_tup (tds_cons (td_str (by decide +kernel)) (tds_cons td_int tds_nil)) (by exact Nat.le_of_ble_eq_true rfl)) (tds_cons (td_tup (tds_cons (td_str (by decide +kernel)) (tds_cons td_int tds_nil)) (by exact Nat.le_of_ble_eq_true rfl)) (tds_cons (td_tup (tds_cons (td_str (by decide +kernel)) (tds_cons td_int tds_nil)) (by exact Nat.le_of_ble_eq_true rfl)) (tds_cons (td_tup (tds_cons td_int (tds_cons td_int tds_nil)) (by exact Nat.le_of_ble_eq_true rfl)) (tds_cons (td_tup (tds_cons td_non (tds_cons td_int tds_nil)) (by exact Nat.le_of_ble_eq_true rfl)) (tds_cons (td_tup (tds_cons (td_tup (tds_cons (td_str (by decide +kernel)) tds_nil) (by exact Nat.le_of_ble_eq_true rfl)) (tds_cons td_int tds_nil)) (by exact Nat.le_of_ble_eq_true rfl)) (tds_cons (td_tup (tds_cons (td_str (by decide +kernel)) (tds_cons (td_str (by decide +kernel)) tds_nil)) (by exact Nat.le_of_ble_eq_true rfl)) (tds_cons (td_tup (tds_cons (td_str (by decide +kernel)) (tds_cons (td_lst (tds_cons td_int tds_nil) (by exact Nat.le_of_ble_eq_true rfl)) tds_nil)) (by exact Nat.le_of_ble_eq_true rfl)) tds_nil)))))))) (by exact Nat.le_of_ble_eq_true rfl) fun b8 ws8 H8 fb8 s8 eb8 hw8 => ?_)
    have S8 : Same H H8 := S7.trans s8
    refine (set_catS (a := b8) (fun z => [some (.ref a), some (.int (k : Int)), some y, some v1, some (.int h.low), some (.int h.high), some (.int h.drift), some v5, some (.ref a5), o6, z, none]) (fun _ => rfl) rfl eb8 hw8 (tds_cons (td_tup (tds_cons (td_str (by decide +kernel)) (tds_cons (td_tup (tds_cons td_int tds_nil) (by exact Nat.le_of_ble_eq_true rfl)) tds_nil)) (by exact Nat.le_of_ble_eq_true rfl)) tds_nil) (by exact Nat.le_of_ble_eq_true rfl) fun b9 ws9 H9 fb9 s9 eb9 hw9 => ?_)
    have S9 : Same H H9 := S8.trans s9
    have n9 : b9 ≠ a5 := fun z => by rw [z, s8 _ _ ea7] at fb9; cases fb9
    refine (loop_varS (a := a5) (l := b9) (fun z => [some (.ref a), some (.int (k : Int)), some y, some v1, some (.int h.low), some (.int h.high), some (.int h.drift), some v5, some (.ref a5), z, some (.ref b9), none]) (fun _ => rfl) rfl rfl (by decide) ⟨_, rfl⟩ (s9 _ _ (s8 _ _ ea7)) (hv7.same (s8.trans s9)) n9 eb9 hw9 (by simp only [List.length_append, List.length_map, List.length_take, List.length_drop, List.length_cons, List.length_nil, List.flatMap_cons, List.flatMap_nil]; omega) (fun x d H' hd kp hx => (td_tup (tds_cons (td_v3 (hN.kp ((Kp.of S9).trans kp))) (tds_cons (td_v4 (.int _)) (tds_cons (td_v5 (.int _)) (tds_cons (td_v6 (.int _)) (tds_cons (td_cat (td_v7 (hR.kp ((Kp.of S9).trans kp))) (td_tup (tds_cons (td_tup (tds_cons (td_v9 hx) tds_nil) (by exact Nat.le_of_ble_eq_true rfl)) tds_nil) (by exact Nat.le_of_ble_eq_true rfl)) (by simp only [List.length_append, List.length_map, List.length_take, List.length_drop, List.length_cons, List.length_nil, List.flatMap_cons, List.flatMap_nil]; omega)) tds_nil))))) (by exact Nat.le_of_ble_eq_true rfl))) (fun o10 H10 vs10 k10 sb10 ea10 hv10 => ?_))
    obtain ⟨ds10, hv10, B10, l10⟩ : ∃ ds, DaAs H10 vs10 ds ∧ (∀ d ∈ ds, BadH hs k d) ∧ ds.length ≤ 110 := ⟨_, hv10, fa_app B7 (fa_map (q := fun d => namedD d = false) (fa_app (fa_cons (by decide +kernel) (fa_cons (by decide +kernel) (fa_cons (by decide +kernel) (fa_cons (by decide +kernel) (fa_cons (by decide +kernel) (fa_cons (by decide +kernel) (fa_cons (by decide +kernel) (fa_cons (by decide +kernel) fa_nil)))))))) (fa_cons (by decide +kernel) fa_nil)) fun d w => badH (hD2 (rnO (rn1 w)))), by simp only [List.length_append, List.length_map, List.length_take, List.length_drop, List.length_cons, List.length_nil, List.flatMap_cons, List.flatMap_nil]; omega⟩
    have S10 : Same H H10 := same_new S9 fr5 sb10
    refine (loop_appS (a := a5) (fun z => [some (.ref a), some (.int (k : Int)), some y, some v1, some (.int h.low), some (.int h.high), some (.int h.drift), some v5, some (.ref a5), o10, some (.ref b9), z]) (fun _ => rfl) rfl (by decide) ⟨_, rfl⟩ ea10 hv10 (tds_cons (td_tup (tds_cons (td_str (by decide +kernel)) (tds_cons td_int tds_nil)) (by exact Nat.le_of_ble_eq_true rfl)) (tds_cons (td_tup (tds_cons (td_str (by decide +kernel)) (tds_cons td_int tds_nil)) (by exact Nat.le_of_ble_eq_true rfl)) (tds_cons (td_tup (tds_cons (td_str (by decide +kernel)) (tds_cons td_int tds_nil)) (by exact Nat.le_of_ble_eq_true rfl)) tds_nil))) (by simp only [List.length_append, List.length_map, List.length_take, List.length_drop, List.length_cons, List.length_nil, List.flatMap_cons, List.flatMap_nil]; omega) (fun x d H' hd kp hx => (td_tup (tds_cons (td_v3 (hN.kp ((Kp.of S10).trans kp))) (tds_cons (td_v4 (.int _)) (tds_cons (td_v5 (.int _)) (tds_cons (td_v6 (.int _)) (tds_cons (td_tup (tds_cons (td_tup (tds_cons (td_tup (tds_cons (td_str (by decide +kernel)) (tds_cons td_int tds_nil)) (by exact Nat.le_of_ble_eq_true rfl)) (tds_cons (td_v11 hx) tds_nil)) (by exact Nat.le_of_ble_eq_true rfl)) tds_nil) (by exact Nat.le_of_ble_eq_true rfl)) tds_nil))))) (by exact Nat.le_of_ble_eq_true rfl))) (fun o11 H11 vs11 k11 sb11 ea11 hv11 => ?_))
    have two : BadH hs k (.tup [.str h.name, .int h.low, .int h.high, .int h.drift, .tup [.tup [.tup [.str "qqqqqqqq", .int 5], .tup [.str "qqqqqqqq", .int 6]]]]) := badH_rows (by show ¬ (["qqqqqqqq", "qqqqqqqq"] : List Str).Nodup; decide +kernel)
    obtain ⟨ds11, hv11, B11, l11⟩ : ∃ ds, DaAs H11 vs11 ds ∧ (∀ d ∈ ds, BadH hs k d) ∧ ds.length ≤ 120 := ⟨_, hv11, fa_app B10 (by rw [List.map_cons, List.map_cons, List.map_cons, List.map_nil]; exact fa_cons (badH (hD2 (by decide +kernel))) (fa_cons (badH (hD2 (by decide +kernel))) (fa_cons two fa_nil))), by simp only [List.length_append, List.length_map, List.length_take, List.length_drop, List.length_cons, List.length_nil, List.flatMap_cons, List.flatMap_nil]; omega⟩
    have S11 : Same H H11 := same_new S10 fr5 sb11
    have lk : k < hs.length := (List.getElem?_eq_some_iff.mp hk).1
    refine (if_appS (a := a5) (rs := h.runs.map runDa) rfl (hR.same S11) rfl ea11 hv11 (by omega) (fun nr H' s => (td_tup (tds_cons (td_v3 (hN.kp (Kp.of (S11.trans s)))) (tds_cons (td_v4 (.int _)) (tds_cons (td_v5 (.int _)) (tds_cons (td_v6 (.int _)) (tds_cons (td_cat (td_v7 (hR.kp (Kp.of (S11.trans s)))) (td_to (k := 1) (td_v7 (hR.kp (Kp.of (S11.trans s)))) (tpo_i td_int)) (by simp only [List.length_append, List.length_map, List.length_take, List.length_drop, List.length_cons, List.length_nil, List.flatMap_cons, List.flatMap_nil]; omega)) tds_nil))))) (by exact Nat.le_of_ble_eq_true rfl))) fun H12 vs12 ds12 sb12 ea12 hv12 alt => ?_)
    have S12 : Same H H12 := same_new S11 fr5 sb12
    have B12 : ∀ d ∈ ds12, BadH hs k d := by
      rcases alt with rfl | ⟨nr, rfl⟩
      · exact B11
      · exact fa_app B11 (fa_cons (badH_rows (runs_twice rfl (fun z => nr (by rw [z]; rfl)) gd.runs)) fa_nil)
    have l12 : ds12.length ≤ 130 := by
      rcases alt with rfl | ⟨nr, rfl⟩
      · omega
      · rw [List.length_append]; simp only [List.length_cons, List.length_nil]; omega
    refine asg_s ⟨a5, rfl, ⟨_, SqL.of ea12⟩, fun D hD => comp_listD (f := putD hs k) hD ea12 hv12 (by omega) (fun x d H' hd hx s b R hR' => ?_) (fun vs13 H13 s13 e13 hv13 => ?_)⟩
    · exact TD.use (σ := [some x, some (.int (k : Int)), some y]) (d := putD hs k d) (td_cat (td_cat (td_to (k := k) (td_v2 (hY.kp (Kp.of (S12.trans s)))) (tpo_i (td_v1 (.int _)))) (td_tup (tds_cons (td_v0 hx) tds_nil) (by exact Nat.le_of_ble_eq_true rfl)) (by simp only [List.length_append, List.length_map, List.length_take, List.length_drop, List.length_cons, List.length_nil, List.flatMap_cons, List.flatMap_nil]; omega)) (td_from (k := (k + 1)) (td_v2 (hY.kp (Kp.of (S12.trans s)))) (tpo_i (td_add1 (td_v1 (.int _))))) (by simp only [List.length_append, List.length_map, List.length_take, List.length_drop, List.length_cons, List.length_nil, List.flatMap_cons, List.flatMap_nil]; omega)) (Same.refl _) hR'
    · have S13 : Same H H13 := S12.trans s13
      refine ret_cat (a := D) (σ := [some (.ref a), some (.int (k : Int)), some y, some v1, some (.int h.low), some (.int h.high), some (.int h.drift), some v5, some (.ref D), o10, some (.ref b9), o11]) rfl e13 hv13 (tds_cons (td_cat (td_v2 (hY.kp (Kp.of S13))) (td_tup (tds_cons (td_v0 (hX.kp (Kp.of S13))) tds_nil) (by exact Nat.le_of_ble_eq_true rfl)) (by simp only [List.length_append, List.length_map, List.length_take, List.length_drop, List.length_cons, List.length_nil, List.flatMap_cons, List.flatMap_nil]; omega)) (tds_cons (td_cat (td_to (k := (k + 1)) (td_v2 (hY.kp (Kp.of S13))) (tpo_i (td_add1 (td_v1 (.int _))))) (td_from (k := k) (td_v2 (hY.kp (Kp.of S13))) (tpo_i (td_v1 (.int _)))) (by simp only [List.length_append, List.length_map, List.length_take, List.length_drop, List.length_cons, List.length_nil, List.flatMap_cons, List.flatMap_nil]; omega)) tds_nil)) (by rw [List.length_map]; simp only [List.length_cons, List.length_nil]; omega) fun b14 ws14 H14 fb14 s14 e14 hw14 => ?_
      refine q b14 ws14 _ H14 e14 hw14 (by rw [List.length_append, List.length_map]; simp only [List.length_cons, List.length_nil]; omega) ?_ (S13.trans s14)
      refine fa_app (fa_map (q := BadH hs k) B12 fun d z => z) (fa_cons ?_ (fa_cons ?_ fa_nil))
      · refine houses_twice ?_
        rw [List.map_append, housesOf_da, List.map_append]
        intro nd
        refine (List.nodup_append.mp nd).2.2 h.name (List.mem_map.mpr ⟨h, hm, rfl⟩) h.name ?_ rfl
        show h.name ∈ [(houseOf (houseDa h)).name]
        rw [houseOf_da]
        exact List.mem_singleton.mpr rfl
      · refine houses_twice ?_
        rw [List.map_append, List.map_take, List.map_drop, housesOf_da, List.map_append]
        intro nd
        have e1 : h ∈ hs.take (k + 1) := by rw [List.take_add_one, hk]; simp
        have e2 : h ∈ hs.drop k := by rw [List.drop_eq_getElem_cons lk, (List.getElem?_eq_some_iff.mp hk).2]; exact List.mem_cons_self
        exact (List.nodup_append.mp nd).2.2 h.name (List.mem_map.mpr ⟨h, e1, rfl⟩) h.name (List.mem_map.mpr ⟨h, e2, rfl⟩) rfl
end
end K02
namespace K02
open PySem L2
theorem nx_of {n b c : St → Hp → Prop} {r : VK} {σ : St} {H : Hp} (h : n σ H) : Ends.nx ⟨n, r, b, c⟩ σ H := h
theorem plt_asymm {a b : Str × Str} (h : plt a b = true) : plt b a = false := by
  cases e : plt b a with
  | false => rfl
  | true =>
    have z := plt_strict.trans a b a h e
    rw [plt_strict.irr] at z
    cases z
theorem riseP_at {A B : List (Str × Str)} {x y : Str × Str} (h : plt x y = false) : riseP (A ++ x :: y :: B) = false := by
  unfold riseP
  rw [List.all_eq_false]
  refine ⟨(x, y), ?_, by simp [h]⟩
  have g := pairsL_get (xs := A ++ x :: y :: B) (i := A.length) (x := x) (y := y) (by simp) (by simp)
  exact List.mem_of_getElem? g
section
variable {hs : List House} {s t l m : Da} {xs : List Da}
theorem ltN {d : Da} (h : letterD d = false) : lettersD hs (.tup [d]) = false := letters_no (List.mem_singleton.mpr rfl) h
theorem lt1 (h : isND s = false) : letterD (.tup [s, t, l, m]) = false := by simp [letterD, h]
theorem lt2 (h : isND t = false) : letterD (.tup [s, t, l, m]) = false := by simp [letterD, h]
theorem lt3 (h : isWD l = false) : letterD (.tup [s, t, l, m]) = false := by simp [letterD, h]
theorem lt3' {i : Int} (h : i < 1) : letterD (.tup [s, t, .int i, m]) = false := by
  have : ¬ 1 ≤ i := by omega
  simp [letterD, intD, this]
theorem lt4 {i : Int} (h : mostD i m = false) : letterD (.tup [s, t, .int i, m]) = false := by simp [letterD, intD, h]
theorem own1 {n : Str} : ownOk hs (.tup [.str n, .str n, l, m]) = false := by
  show (match lookP (pairsOf hs) n, lookP (pairsOf hs) n with | some a, some b => !decide (a = b) | _, _ => false) = false
  cases lookP (pairsOf hs) n <;> simp
theorem own2 {n z : Str} (h : z ∉ namesOf hs) : ownOk hs (.tup [.str n, .str z, l, m]) = false := by
  show (match lookP (pairsOf hs) n, lookP (pairsOf hs) z with | some a, some b => !decide (a = b) | _, _ => false) = false
  have e : lookP (pairsOf hs) z = none := lookP_none (by rw [pairsOf_fst]; exact h)
  rw [e]
  cases lookP (pairsOf hs) n <;> rfl
theorem twiceL {n z : Str} {i : Int} : lettersD hs (.tup [.tup [.str n, .str z, .int i, m], .tup [.str n, .str z, .int i, m]]) = false := letters_rise (by
  show riseP ([] ++ (n, z) :: (n, z) :: []) = false
  exact riseP_at (plt_strict.irr _))
theorem revL {ls : List Letter} (h : (ls.map Prod.fst).Pairwise fun a b => plt a b = true) (two : 1 < ls.length) : lettersD hs (.tup (ls.map letterDa).reverse) = false := letters_rise (by
  rw [List.map_reverse, List.map_map]
  match ls, two with
  | x :: y :: r, _ =>
    rw [List.map_cons, List.map_cons] at h
    have z := (List.pairwise_cons.mp h).1 y.1 List.mem_cons_self
    show riseP ((x.1 :: y.1 :: r.map (keyOf ∘ letterDa)).reverse) = false
    rw [List.reverse_cons, List.reverse_cons, List.append_assoc]
    exact riseP_at (plt_asymm z))
theorem rotL {ls : List Letter} (h : (ls.map Prod.fst).Pairwise fun a b => plt a b = true) (two : 1 < ls.length) : lettersD hs (.tup ((ls.map letterDa).drop 1 ++ (ls.map letterDa).take 1)) = false := letters_rise (by
  match ls, two with
  | x :: y :: r, _ =>
    rw [List.map_cons] at h
    have ne : (y :: r) ≠ [] := fun z => nomatch z
    have e := (List.dropLast_concat_getLast ne).symm
    have z := (List.pairwise_cons.mp h).1 ((y :: r).getLast ne).1 (List.mem_map_of_mem (List.getLast_mem ne))
    show riseP (((y :: r).map letterDa ++ [letterDa x]).map keyOf) = false
    rw [List.map_append, List.map_map]
    generalize y :: r = yr at ne e z
    rw [e, List.map_append, List.append_assoc]
    exact riseP_at (B := []) (plt_asymm z))
end
noncomputable def spNoLetters : Sp := fun vs H Q _ => ∃ (x y : V) (hs : List House) (ls : List Letter), vs = [x, y] ∧ HousesAt H x hs ∧ LettersAt H y ls ∧ GoodHouses hs ∧ GoodLetters hs ls ∧ (∀ n ∈ namesOf hs, n ≠ qS) ∧
  ∀ (l : Addr) (us : List V) (ds : List Da) (H' : Hp), H' l = some (.lst us) → DaAs H' us ds → ds.length ≤ 1000 → (∀ d ∈ ds, lettersD hs d = false) → Same H H' → Q (.ref l) H'
section
variable {P : Program} {w : World} {K : PySem.W.Frag} {mg : Str → Option Value} {base : Heap} {t8 t6 tR tL : Tok}
theorem sc_noletters : FnScope ["_law_houses", "_law_letters_here", "_law_rows_here", "_law_found", "_law_one", "_law_other", "_law_least", "_law_most", "_law_odd"] ["_law_houses", "_law_letters_here"] (defScope sNoLetters) := ⟨rfl, rfl, rfl, by decide +kernel, rfl, by decide +kernel, by decide +kernel⟩
theorem ok_noletters {f f_rows : Addr} {fd fd_rows : FuncData} (F : Fun K "_law_no_letters" "_law_no_letters" sNoLetters f fd) (T : Txt mg t8 t6 tR tL)
    (G_rows : FnOk P w K mg base CX0 1 f_rows fd_rows ["_law_ledger_here"] spRows) (m_rows : mg "_law_rows" = some (.ref f_rows)) (k_rows : PySem.W.keepIn K (.ref f_rows) = true) (b_rows : Binds K fd_rows ["_law_ledger_here"] []) : FnOk P w K mg base CX0 2 f fd ["_law_houses", "_law_letters_here"] spNoLetters := by
  refine F.ok sc_noletters (fun vs H Q E h => ?_) (fun cdv A outer s H vs Q E hr h => ?_)
  · obtain ⟨x, y, hs, ls, rfl, _⟩ := h
    rfl
  · obtain ⟨x, y, hs, ls, rfl, hh, hl, gh, gl, nq, q⟩ := h
    have sl0 : sizeLine = 16777216 := sizeLine_eq
    have l24 := gl.few
    have hY : DaAt H y (.tup (ls.map letterDa)) := hl.da (by omega) fun l hl => ⟨(gl.all l hl).sent, (gl.all l hl).taken⟩
    refine ⟨_, (SSs.h (qss_cons (qs_set (i := 2) sc_noletters.nd rfl (Or.inl rfl) (qe_call G_rows hr rfl m_rows k_rows b_rows .nil pass0 (qa_cons (qe_tup (qa_cons (qV 0) (qa_cons (qV 1) qa_nil))) qa_nil))) (qss_cons (qs_set (i := 3) sc_noletters.nd rfl (Or.inl rfl) (qe_lst (qa_cons (qe_callTy ⟨call_list_of⟩ rfl T.list PyProof.Rows.boot_list (qa_cons (qV 1) qa_nil)) (qa_cons qe_non (qa_cons (qe_tup (qa_cons qe_non qa_nil)) (qa_cons (qe_tup (qa_cons (qe_tup qa_nil) qa_nil)) (qa_cons (qe_tup (qa_cons (qe_tup (qa_cons qe_str (qa_cons qe_str (qa_cons qe_int qa_nil)))) qa_nil)) (qa_cons qe_int (qa_cons qe_str qa_nil))))))))) (qss_cons (qs_if (qtC ⟨(oNeL hr.units)⟩ (qV 2) (qe_lst qa_nil) (nomark _)) (qss_cons (qs_set (i := 3) sc_noletters.nd rfl (Or.inl rfl) (qe_op ⟨op_cat⟩ (qV 3) (qe_lst (qa_cons (qe_tup (qa_cons (qe_tup (qa_cons (qe_ix ⟨iIx⟩ (qV 2) qe_int (fun _ _ => rfl)) (qa_cons (qe_ix ⟨iIx⟩ (qV 2) qe_int (fun _ _ => rfl)) (qa_cons qe_int (qa_cons qe_non qa_nil))))) qa_nil)) (qa_cons (qe_tup (qa_cons (qe_tup (qa_cons (qe_ix ⟨iIx⟩ (qV 2) qe_int (fun _ _ => rfl)) (qa_cons qe_str (qa_cons qe_int (qa_cons qe_non qa_nil))))) qa_nil)) qa_nil))))) (qss_one (qs_set (i := 3) sc_noletters.nd rfl (Or.inl rfl) (qe_op ⟨op_cat⟩ (qV 3) (qe_lst (qa_cons (qe_tup (qa_cons (qe_tup (qa_cons (qe_ix ⟨iIx⟩ (qV 2) qe_int (fun _ _ => rfl)) (qa_cons qe_str (qa_cons qe_int (qa_cons qe_non qa_nil))))) qa_nil)) qa_nil)))))) qss_nil) (qss_cons (qs_for PassesOwn.never rfl (qi_tup (qe_slice ⟨iSlA⟩ (qV 1) qo_none (qoI qe_int))) (qg_tup rfl (qgs_cons (qg_name (i := 4) sc_noletters.nd rfl (Or.inl rfl)) (qgs_cons (qg_name (i := 5) sc_noletters.nd rfl (Or.inl rfl)) (qgs_cons (qg_name (i := 6) sc_noletters.nd rfl (Or.inl rfl)) (qgs_cons (qg_name (i := 7) sc_noletters.nd rfl (Or.inl rfl)) qgs_nil))))) (qss_cons (qs_for PassesOwn.never rfl (qi_list (qe_lst (qa_cons qe_int (qa_cons (qe_un ⟨uNeg⟩ qe_int) (qa_cons qe_non (qa_cons qe_bl (qa_cons qe_str qa_nil))))))) (qg_name (i := 8) sc_noletters.nd rfl (Or.inl rfl)) (qss_one (qs_expr (qe_bm PySem.F.plainAttrs_list PySem.F.slot_list_append PySem.F.type_list_append ⟨mt_append⟩ (qV 3) (qa_cons (qe_tup (qa_cons (qe_tup (qa_cons (qV 4) (qa_cons (qV 5) (qa_cons (qV 8) (qa_cons qe_non qa_nil))))) qa_nil)) qa_nil))))) (qss_cons (qs_for PassesOwn.never rfl (qi_list (qe_lst (qa_cons (qe_op ⟨oSub⟩ (qV 6) qe_int) (qa_cons qe_bl (qa_cons qe_str (qa_cons (qe_tup qa_nil) (qa_cons (qe_lst (qa_cons (qV 6) qa_nil)) qa_nil))))))) (qg_name (i := 8) sc_noletters.nd rfl (Or.inl rfl)) (qss_one (qs_expr (qe_bm PySem.F.plainAttrs_list PySem.F.slot_list_append PySem.F.type_list_append ⟨mt_append⟩ (qV 3) (qa_cons (qe_tup (qa_cons (qe_tup (qa_cons (qV 4) (qa_cons (qV 5) (qa_cons (qV 6) (qa_cons (qV 8) qa_nil))))) qa_nil)) qa_nil))))) (qss_cons (qs_set (i := 3) sc_noletters.nd rfl (Or.inl rfl) (qe_op ⟨op_cat⟩ (qV 3) (qe_lst (qa_cons (qe_tup (qa_cons (qe_lst (qa_cons (qV 4) (qa_cons (qV 5) (qa_cons (qV 6) (qa_cons (qV 7) qa_nil))))) qa_nil)) (qa_cons (qe_tup (qa_cons (qe_tup (qa_cons (qV 4) (qa_cons (qV 5) (qa_cons (qV 6) qa_nil)))) qa_nil)) (qa_cons (qe_tup (qa_cons (qe_tup (qa_cons (qV 4) (qa_cons (qV 5) (qa_cons (qV 6) (qa_cons (qV 7) (qa_cons qe_int qa_nil)))))) qa_nil)) qa_nil)))))) (qss_one (qs_set (i := 3) sc_noletters.nd rfl (Or.inl rfl) (qe_op ⟨op_cat⟩ (qV 3) (qe_lst (qa_cons (qe_op ⟨oTwiceA⟩ (qe_tup (qa_cons (qe_tup (qa_cons (qV 4) (qa_cons (qV 5) (qa_cons (qV 6) (qa_cons qe_non qa_nil))))) qa_nil)) qe_int) (qa_cons (qe_tup (qa_cons (qe_tup (qa_cons qe_str (qa_cons (qV 5) (qa_cons qe_int (qa_cons qe_non qa_nil))))) qa_nil)) (qa_cons (qe_tup (qa_cons (qe_tup (qa_cons (qV 4) (qa_cons (qe_lst (qa_cons (qV 5) qa_nil)) (qa_cons qe_int (qa_cons qe_non qa_nil))))) qa_nil)) qa_nil))))))))))) (qss_cons (qs_if (qtC ⟨oGt⟩ (qe_callB ⟨call_len_seq⟩ rfl T.len PySem.boot_len (qa_cons (qV 1) qa_nil)) qe_int (nomark _)) (qss_one (qs_set (i := 3) sc_noletters.nd rfl (Or.inl rfl) (qe_op ⟨op_cat⟩ (qV 3) (qe_lst (qa_cons (qe_rev (qV 1)) (qa_cons (qe_op ⟨oCatA⟩ (qe_slice ⟨iSlA⟩ (qV 1) (qoI qe_int) qo_none) (qe_slice ⟨iSlA⟩ (qV 1) qo_none (qoI qe_int))) qa_nil)))))) qss_nil) (qss_one (qs_ret (qV 3))))))))), ?_⟩
    refine asg_h fun Uz hUz => ?_
    refine ⟨by show 2 ≤ sizeLine; omega, fun p hp => ?_⟩
    have s0 : Same H (upd H p (.tup [x, y])) := (Same.refl H).upd hp
    refine ⟨.ref p, hs, ls, rfl, ⟨p, x, y, rfl, upd_same, hh.ts s0.tups, hl.ts s0.tups⟩, gh, fun l ss H1 el1 s01 perm so => ?_⟩
    have S1 : Same H H1 := s0.trans s01
    subst hUz
    show tSeq (tAsg _ _) _ _ [some x, some y, some (.ref l), none, none, none, none, none, none] H1
    refine (set_lstS (fun z => [some x, some y, some (.ref l), z, none, none, none, none, none]) (fun _ => rfl) (tds_cons (td_listC (td_v1 (hY.same S1))) (tds_cons td_non (tds_cons (td_tup (tds_cons td_non tds_nil) (by exact Nat.le_of_ble_eq_true rfl)) (tds_cons (td_tup (tds_cons (td_tup tds_nil (by exact Nat.le_of_ble_eq_true rfl)) tds_nil) (by exact Nat.le_of_ble_eq_true rfl)) (tds_cons (td_tup (tds_cons (td_tup (tds_cons (td_str (by decide +kernel)) (tds_cons (td_str (by decide +kernel)) (tds_cons td_int tds_nil))) (by exact Nat.le_of_ble_eq_true rfl)) tds_nil) (by exact Nat.le_of_ble_eq_true rfl)) (tds_cons td_int (tds_cons (td_str (by decide +kernel)) tds_nil))))))) (by exact Nat.le_of_ble_eq_true rfl) fun a2 vs2 H2 fa2 s2 ea2 hv2 => ?_)
    obtain ⟨ds2, hv2, B2, l2⟩ : ∃ ds, DaAs H2 vs2 ds ∧ (∀ d ∈ ds, lettersD hs d = false) ∧ ds.length ≤ 10 := ⟨_, hv2, fa_cons rfl (fa_cons rfl (fa_cons (ltN rfl) (fa_cons (ltN rfl) (fa_cons (ltN rfl) (fa_cons rfl (fa_cons rfl fa_nil)))))), by simp only [List.length_append, List.length_map, List.length_take, List.length_drop, List.length_cons, List.length_nil, List.flatMap_cons, List.flatMap_nil]; omega⟩
    have S2 : Same H H2 := S1.trans s2
    have fr2 : H a2 = none := fresh_up S1 fa2
    refine if_join (fun σ' H' => ∃ (a : Addr) (ws : List V) (ds : List Da), σ' = [some x, some y, some (.ref l), some (.ref a), none, none, none, none, none] ∧ H' a = some (.lst ws) ∧ DaAs H' ws ds ∧ (∀ d ∈ ds, lettersD hs d = false) ∧ ds.length ≤ 20 ∧ Same H H' ∧ H a = none) (fun U hU => ?_) (fun σ' H' hz16 => ?_)
    · refine ⟨Nat.zero_le _, fun p hp => ⟨⟨l, p, ss.map V.str, rfl, rfl, ((Same.refl H2).upd hp) _ _ (s2 _ _ el1), upd_same, ?_⟩⟩⟩
      have s3' : Same H2 (upd H2 p (.lst [])) := (Same.refl _).upd hp
      generalize upd H2 p (.lst []) = H3 at s3'
      have S3 : Same H H3 := S2.trans s3'
      refine ite2 (fun ne => ?_) (fun ne => ?_)
      · obtain ⟨n0, r0, er0⟩ : ∃ n0 r0, ss = n0 :: r0 := by
          cases ss with
          | nil => exact absurd ne (by decide)
          | cons n0 r0 => exact ⟨n0, r0, rfl⟩
        have m0 : n0 ∈ namesOf hs := perm.subset (by rw [er0]; exact List.mem_cons_self)
        have g0 : Good n0 := names_good gh.all m0
        have e0 : atI (ss.map V.str) 0 = some (.str n0) := atI_nat (j := 0) (by rw [er0]; rfl)
        have hd0 : ∀ {H : Hp}, DaAt H (.str n0) (.str n0) := g0.da
        have s3 : Same H1 H3 := s2.trans s3'
        show tSeq (tAsg _ _) _ _ [some x, some y, some (.ref l), some (.ref a2), none, none, none, none, none] H3
        refine (set_catS (a := a2) (fun z => [some x, some y, some (.ref l), z, none, none, none, none, none]) (fun _ => rfl) rfl (s3' _ _ ea2) (hv2.same s3') (tds_cons (td_tup (tds_cons (td_tup (tds_cons (td_ixl rfl (s3 _ _ el1) e0 hd0) (tds_cons (td_ixl rfl (s3 _ _ el1) e0 hd0) (tds_cons td_int (tds_cons td_non tds_nil)))) (by exact Nat.le_of_ble_eq_true rfl)) tds_nil) (by exact Nat.le_of_ble_eq_true rfl)) (tds_cons (td_tup (tds_cons (td_tup (tds_cons (td_ixl rfl (s3 _ _ el1) e0 hd0) (tds_cons (td_str (by decide +kernel)) (tds_cons td_int (tds_cons td_non tds_nil)))) (by exact Nat.le_of_ble_eq_true rfl)) tds_nil) (by exact Nat.le_of_ble_eq_true rfl)) tds_nil)) (by simp only [List.length_append, List.length_map, List.length_take, List.length_drop, List.length_cons, List.length_nil, List.flatMap_cons, List.flatMap_nil]; omega) fun a4 vs4 H4 fa4 s4 ea4 hv4 => ?_)
        have S4 : Same H H4 := S3.trans s4
        refine set_cat (a := a4) rfl ea4 hv4 (tds_cons (td_tup (tds_cons (td_tup (tds_cons (td_ixl rfl ((s3.trans s4) _ _ el1) e0 hd0) (tds_cons (td_str (by decide +kernel)) (tds_cons td_int (tds_cons td_non tds_nil)))) (by exact Nat.le_of_ble_eq_true rfl)) tds_nil) (by exact Nat.le_of_ble_eq_true rfl)) tds_nil) (by simp only [List.length_append, List.length_map, List.length_take, List.length_drop, List.length_cons, List.length_nil, List.flatMap_cons, List.flatMap_nil]; omega) fun a5 vs5 H5 fa5 s5 ea5 hv5 => ?_
        refine hU _ _ ⟨a5, vs5, _, rfl, ea5, hv5, ?_, by simp only [List.length_append, List.length_map, List.length_take, List.length_drop, List.length_cons, List.length_nil, List.flatMap_cons, List.flatMap_nil]; omega, S4.trans s5, fresh_up S4 fa5⟩
        exact fa_app (fa_app B2 (fa_cons (letters_own List.mem_cons_self own1) (fa_cons (ltN (lt2 (by decide +kernel))) fa_nil))) (fa_cons (letters_own List.mem_cons_self (own2 (z := "qqqqqqqr") fun m => nq _ m (by decide +kernel))) fa_nil)
      · exact hU _ _ ⟨a2, vs2, ds2, rfl, s3' _ _ ea2, hv2.same s3', B2, by omega, S3, fr2⟩
    refine hideP fun Rz0 hRz0 => ?_
    obtain ⟨a, ws, ds, eσ, ea, hv, B, ln, S, fa⟩ := hz16
    subst hRz0
    subst eσ
    clear hv2 ea2 B2 l2 fr2
    refine TD.use (σ := [some x, some y, some (.ref l), some (.ref a), none, none, none, none, none]) (td_to (k := 1) (td_v1 (hY.same S)) (tpo_i td_int)) (Same.refl _) fun v H2' s2' hv' => ?_
    refine hideP fun Rz0 hRz0 => ?_
    obtain ⟨c, us, ez37, ec, lc, rc⟩ := hv'.tupE
    subst hRz0
    subst ez37
    have SS : Same H H2' := S.trans s2'
    have lu : us.length ≤ 1 := by have z := rc.len; rw [List.length_take] at z; omega
    refine ⟨c, rfl, ⟨_, SqT.of ec⟩, for_tup (xs := us) (fun i σ' H' => ∃ (a : Addr) (ws : List V) (ds : List Da) (o4 o5 o6 o7 o8 : Option V), σ' = [some x, some y, some (.ref l), some (.ref a), o4, o5, o6, o7, o8] ∧ H' a = some (.lst ws) ∧ DaAs H' ws ds ∧ (∀ d ∈ ds, lettersD hs d = false) ∧ ds.length ≤ 20 + 30 * i ∧ Kp H2' H' ∧ Same H H' ∧ H a = none) ⟨a, ws, ds, none, none, none, none, none, rfl, s2' _ _ ea, hv.same s2', B, by omega, Kp.refl _, SS, fa⟩ (fun i σ' H' _ hz17 => by obtain ⟨_, _, _, _, _, _, _, _, _, _, _, _, _, z, _⟩ := hz17; exact SqT.of (z.tup _ _ ec)) (fun i z σ' H3 hz hz18 => ?_) (fun σ' H3 hz19 => ?_)⟩
    · refine hideP fun Rz0 hRz0 => ?_
      obtain ⟨a, ws, ds, o4, o5, o6, o7, o8, eσ, ea, hv, B, ln, k3, S3, fa⟩ := hz18
      subst hRz0
      subst eσ
      obtain ⟨dz, hdz, az⟩ := rc.get hz
      have li : i < 1 := by have := (List.getElem?_eq_some_iff.mp hz).1; omega
      have mz : dz ∈ ls.map letterDa := List.mem_of_mem_take (List.mem_of_getElem? hdz)
      obtain ⟨lt, ml, rfl⟩ := List.mem_map.mp mz
      have gt := gl.all lt ml
      refine hideP fun Rz0 hRz0 => ?_
      obtain ⟨cz, uz, ez38, ecz, _, rz⟩ := (az.kp k3).tupE
      subst hRz0
      subst ez38
      refine hideP fun Rz0 hRz0 => ?_
      obtain ⟨w1, w2, w3, w4, ez39, h1, h2, q3, h4⟩ := rz.four
      subst hRz0
      subst ez39
      cases q3
      refine ⟨cz, _, rfl, SqT.of ecz, rfl, _, _, rfl, _, _, rfl, _, _, rfl, _, _, rfl, rfl, ?_⟩
      show tSeq (tFor _ _ _) _ _ [some x, some y, some (.ref l), some (.ref a), some w1, some w2, some (.int lt.2.1), some w4, o8] H3
      refine (loop_appS (a := a) (fun z => [some x, some y, some (.ref l), some (.ref a), some w1, some w2, some (.int lt.2.1), some w4, z]) (fun _ => rfl) rfl (by decide) ⟨_, rfl⟩ ea hv (tds_cons td_int (tds_cons (td_neg rfl td_int) (tds_cons td_non (tds_cons td_bl (tds_cons (td_str (by decide +kernel)) tds_nil))))) (by simp only [List.length_append, List.length_map, List.length_take, List.length_drop, List.length_cons, List.length_nil, List.flatMap_cons, List.flatMap_nil]; omega) (fun x d H' hd kp hx => (td_tup (tds_cons (td_tup (tds_cons (td_v4 (h1.kp kp)) (tds_cons (td_v5 (h2.kp kp)) (tds_cons (td_v8 hx) (tds_cons td_non tds_nil)))) (by exact Nat.le_of_ble_eq_true rfl)) tds_nil) (by exact Nat.le_of_ble_eq_true rfl))) (fun o9 H4 vs4 k4 sb4 ea4 hv4 => ?_))
      obtain ⟨ds4, hv4, B4, l4⟩ : ∃ ds, DaAs H4 vs4 ds ∧ (∀ d ∈ ds, lettersD hs d = false) ∧ ds.length ≤ 25 + 30 * i := ⟨_, hv4, fa_app B (fa_cons (ltN (lt3' (by decide))) (fa_cons (ltN (lt3' (by decide))) (fa_cons (ltN (lt3 rfl)) (fa_cons (ltN (lt3 rfl)) (fa_cons (ltN (lt3 rfl)) fa_nil))))), by simp only [List.length_append, List.length_map, List.length_take, List.length_drop, List.length_cons, List.length_nil, List.flatMap_cons, List.flatMap_nil]; omega⟩
      refine (loop_appS (a := a) (fun z => [some x, some y, some (.ref l), some (.ref a), some w1, some w2, some (.int lt.2.1), some w4, z]) (fun _ => rfl) rfl (by decide) ⟨_, rfl⟩ ea4 hv4 (tds_cons (td_sub (td_v6 (.int _)) td_int) (tds_cons td_bl (tds_cons (td_str (by decide +kernel)) (tds_cons (td_tup tds_nil (by exact Nat.le_of_ble_eq_true rfl)) (tds_cons (td_lst (tds_cons (td_v6 (.int _)) tds_nil) (by exact Nat.le_of_ble_eq_true rfl)) tds_nil))))) (by simp only [List.length_append, List.length_map, List.length_take, List.length_drop, List.length_cons, List.length_nil, List.flatMap_cons, List.flatMap_nil]; omega) (fun x d H' hd kp hx => (td_tup (tds_cons (td_tup (tds_cons (td_v4 (h1.kp (k4.trans kp))) (tds_cons (td_v5 (h2.kp (k4.trans kp))) (tds_cons (td_v6 (.int _)) (tds_cons (td_v8 hx) tds_nil)))) (by exact Nat.le_of_ble_eq_true rfl)) tds_nil) (by exact Nat.le_of_ble_eq_true rfl))) (fun o10 H5 vs5 k5 sb5 ea5 hv5 => ?_))
      obtain ⟨ds5, hv5, B5, l5⟩ : ∃ ds, DaAs H5 vs5 ds ∧ (∀ d ∈ ds, lettersD hs d = false) ∧ ds.length ≤ 30 + 30 * i := ⟨_, hv5, fa_app B4 (fa_cons (ltN (lt4 (decide_eq_false (by omega)))) (fa_cons (ltN (lt4 rfl)) (fa_cons (ltN (lt4 rfl)) (fa_cons (ltN (lt4 rfl)) (fa_cons (ltN (lt4 rfl)) fa_nil))))), by simp only [List.length_append, List.length_map, List.length_take, List.length_drop, List.length_cons, List.length_nil, List.flatMap_cons, List.flatMap_nil]; omega⟩
      have k35 : Kp H3 H5 := k4.trans k5
      have S5 : Same H H5 := same_new (same_new S3 fa sb4) fa sb5
      refine (set_catS (a := a) (fun z => [some x, some y, some (.ref l), z, some w1, some w2, some (.int lt.2.1), some w4, o10]) (fun _ => rfl) rfl ea5 hv5 (tds_cons (td_tup (tds_cons (td_lst (tds_cons (td_v4 (h1.kp k35)) (tds_cons (td_v5 (h2.kp k35)) (tds_cons (td_v6 (.int _)) (tds_cons (td_v7 (h4.kp k35)) tds_nil)))) (by exact Nat.le_of_ble_eq_true rfl)) tds_nil) (by exact Nat.le_of_ble_eq_true rfl)) (tds_cons (td_tup (tds_cons (td_tup (tds_cons (td_v4 (h1.kp k35)) (tds_cons (td_v5 (h2.kp k35)) (tds_cons (td_v6 (.int _)) tds_nil))) (by exact Nat.le_of_ble_eq_true rfl)) tds_nil) (by exact Nat.le_of_ble_eq_true rfl)) (tds_cons (td_tup (tds_cons (td_tup (tds_cons (td_v4 (h1.kp k35)) (tds_cons (td_v5 (h2.kp k35)) (tds_cons (td_v6 (.int _)) (tds_cons (td_v7 (h4.kp k35)) (tds_cons td_int tds_nil))))) (by exact Nat.le_of_ble_eq_true rfl)) tds_nil) (by exact Nat.le_of_ble_eq_true rfl)) tds_nil))) (by simp only [List.length_append, List.length_map, List.length_take, List.length_drop, List.length_cons, List.length_nil, List.flatMap_cons, List.flatMap_nil]; omega) fun a6 vs6 H6 fa6 s6 ea6 hv6 => ?_)
      obtain ⟨ds6, hv6, B6, l6⟩ : ∃ ds, DaAs H6 vs6 ds ∧ (∀ d ∈ ds, lettersD hs d = false) ∧ ds.length ≤ 33 + 30 * i := ⟨_, hv6, fa_app B5 (fa_cons (ltN rfl) (fa_cons (ltN rfl) (fa_cons (ltN rfl) fa_nil))), by simp only [List.length_append, List.length_map, List.length_take, List.length_drop, List.length_cons, List.length_nil, List.flatMap_cons, List.flatMap_nil]; omega⟩
      refine set_cat (a := a6) rfl ea6 hv6 (tds_cons (td_twice (td_tup (tds_cons (td_tup (tds_cons (td_v4 (h1.kp (k35.trans (Kp.of s6)))) (tds_cons (td_v5 (h2.kp (k35.trans (Kp.of s6)))) (tds_cons (td_v6 (.int _)) (tds_cons td_non tds_nil)))) (by exact Nat.le_of_ble_eq_true rfl)) tds_nil) (by exact Nat.le_of_ble_eq_true rfl))) (tds_cons (td_tup (tds_cons (td_tup (tds_cons (td_str (by decide +kernel)) (tds_cons (td_v5 (h2.kp (k35.trans (Kp.of s6)))) (tds_cons td_int (tds_cons td_non tds_nil)))) (by exact Nat.le_of_ble_eq_true rfl)) tds_nil) (by exact Nat.le_of_ble_eq_true rfl)) (tds_cons (td_tup (tds_cons (td_tup (tds_cons (td_v4 (h1.kp (k35.trans (Kp.of s6)))) (tds_cons (td_lst (tds_cons (td_v5 (h2.kp (k35.trans (Kp.of s6)))) tds_nil) (by exact Nat.le_of_ble_eq_true rfl)) (tds_cons td_int (tds_cons td_non tds_nil)))) (by exact Nat.le_of_ble_eq_true rfl)) tds_nil) (by exact Nat.le_of_ble_eq_true rfl)) tds_nil))) (by simp only [List.length_append, List.length_map, List.length_take, List.length_drop, List.length_cons, List.length_nil, List.flatMap_cons, List.flatMap_nil]; omega) fun a7 vs7 H7 fa7 s7 ea7 hv7 => ?_
      exact ⟨a7, vs7, _, _, _, _, _, _, rfl, ea7, hv7, fa_app B6 (fa_cons twiceL (fa_cons (ltN (lt1 (by decide +kernel))) (fa_cons (ltN (lt2 rfl)) fa_nil))), by simp only [List.length_append, List.length_map, List.length_take, List.length_drop, List.length_cons, List.length_nil, List.flatMap_cons, List.flatMap_nil]; omega, (k3.trans (k35.trans (Kp.of s6))).trans (Kp.of s7), (S5.trans s6).trans s7, fresh_up (S5.trans s6) fa7⟩
    · refine hideP fun Rz0 hRz0 => ?_
      obtain ⟨a, ws, ds, o4, o5, o6, o7, o8, eσ, ea, hv, B, ln, k3, S3, fa⟩ := hz19
      subst hRz0
      subst eσ
      refine nx_of ?_
      refine if_join (fun σ' H' => ∃ (a : Addr) (ws : List V) (ds : List Da), σ' = [some x, some y, some (.ref l), some (.ref a), o4, o5, o6, o7, o8] ∧ H' a = some (.lst ws) ∧ DaAs H' ws ds ∧ (∀ d ∈ ds, lettersD hs d = false) ∧ ds.length ≤ 100 ∧ Same H H') (fun U hU => ?_) (fun σ' H' hz20 => ?_)
      · refine hideP fun Rz0 hRz0 => ?_
        obtain ⟨cy, wy, ecy', ecy, lcy, rcy⟩ := (hY.same S3).tupE
        subst hRz0
        subst ecy'
        have ly := rcy.len
        rw [List.length_map] at ly
        refine ⟨cy, wy, rfl, .inr (SqT.of ecy), ?_⟩
        refine ite2 (fun two => ?_) (fun two => ?_)
        · have two' : 1 < ls.length := by have := of_decide_eq_true two; omega
          refine set_cat (a := a) rfl ea hv (tds_cons (td_rev (td_v1 (hY.same S3))) (tds_cons (td_cat (td_from (k := 1) (td_v1 (hY.same S3)) (tpo_i td_int)) (td_to (k := 1) (td_v1 (hY.same S3)) (tpo_i td_int)) (by simp only [List.length_append, List.length_map, List.length_take, List.length_drop, List.length_cons, List.length_nil, List.flatMap_cons, List.flatMap_nil]; omega)) tds_nil)) (by simp only [List.length_append, List.length_map, List.length_take, List.length_drop, List.length_cons, List.length_nil, List.flatMap_cons, List.flatMap_nil]; omega) fun a8 vs8 H8 fa8 s8 ea8 hv8 => ?_
          exact hU _ _ ⟨a8, vs8, _, rfl, ea8, hv8, fa_app B (fa_cons (revL gl.rise two') (fa_cons (rotL gl.rise two') fa_nil)), by simp only [List.length_append, List.length_map, List.length_take, List.length_drop, List.length_cons, List.length_nil, List.flatMap_cons, List.flatMap_nil]; omega, S3.trans s8⟩
        · exact hU _ _ ⟨a, ws, ds, rfl, ea, hv, B, by omega, S3⟩
      · refine hideP fun Rz0 hRz0 => ?_
        obtain ⟨a, ws, ds, eσ, ea, hv, B, ln, S⟩ := hz20
        subst hRz0
        subst eσ
        exact q a ws ds H' ea hv (by omega) B S
end
end K02
namespace K02
open PySem L2
theorem td_wide {σ : St} {H : Hp} {E : XK} {n m : Nat} (hn : n ≤ 8) (hm : m ≤ 25) : TD (tCall spWide [] E (tCons (tC (.int (n : Int))) (tCons (tC (.int (m : Int))) tNil))) σ H (.tup (wideL n m)) := ⟨fun H1 s Q q =>
  ⟨n, m, rfl, hn, hm, fun x H' hx s' => q x H' s' hx⟩⟩
theorem td_lettersof {σ : St} {H : Hp} {E : XK} {n : Nat} (hn : n ≤ 25) : TD (tCall spLettersOf [] E (tCons (tC (.int (n : Int))) tNil)) σ H (.tup (lettersL n)) := ⟨fun H1 s Q q =>
  ⟨n, rfl, hn, fun x H' hx s' => q x H' s' hx⟩⟩
theorem no_da {hs : List House} : ledgerD (housesDa hs) = false := by
  unfold housesDa
  match hs with
  | [] => rfl
  | [_] => rfl
  | [a, b] => exact ledger_no1 (houses_no (d := .str a.name) List.mem_cons_self rfl)
  | _ :: _ :: _ :: _ => rfl
theorem no_dl {hs : List House} {ls : List Letter} : ledgerD (.tup [.tup (ls.map letterDa), .tup (hs.map houseDa)]) = false := by
  refine ledger_no1 ?_
  match ls with
  | [] => rfl
  | l :: ls => exact houses_no (d := letterDa l) List.mem_cons_self rfl
theorem w71 : ledgerD (.tup [.tup (wideL 7 1), .tup []]) = false := by decide +kernel
theorem w55 : ledgerD (.tup [.tup (wideL 5 5), .tup []]) = false := by decide +kernel
theorem w23a : ledgerD (.tup [.tup (wideL 2 3), .tup [.tup [.str "aa", .str "ab", .int 1, .non]]]) = false := by decide +kernel
theorem w23b : ledgerD (.tup [.tup (wideL 2 3), .tup [.tup [.str "bc", .str "ba", .int 1, .int 5]]]) = false := by decide +kernel
theorem w23c : ledgerD (.tup [.tup (wideL 2 3 ++ [.tup [.str "q", .int 0, .int 1, .int 2, .tup [.tup [.tup [.str "aa", .int 5]]]]]), .tup []]) = false := by decide +kernel
theorem w212a : ledgerD (.tup [.tup (wideL 2 12), .tup (lettersL 25)]) = false := ledger_no2 (by decide +kernel)
theorem w212b : ledgerD (.tup [.tup (wideL 2 12), .tup (lettersL 24).reverse]) = false := ledger_no2 (letters_rise (by decide +kernel))
noncomputable def spAllNone : Sp := fun vs H Q _ => ∃ (x y : V) (hs : List House) (ls : List Letter), vs = [x, y] ∧ DaAt H x (housesDa hs) ∧ DaAt H y (lettersDa ls) ∧ GoodHouses hs ∧ GoodLetters hs ls ∧
  ∀ (l : Addr) (us : List V) (ds : List Da) (H' : Hp), H' l = some (.lst us) → DaAs H' us ds → ds.length ≤ 1000 → (∀ d ∈ ds, ledgerD d = false) → Same H H' → Q (.ref l) H'
section
variable {P : Program} {w : World} {K : PySem.W.Frag} {mg : Str → Option Value} {base : Heap} {t8 t6 tR tL : Tok}
theorem sc_allnone : FnScope ["_law_houses", "_law_letters_here", "_law_found", "_law_wide_here"] ["_law_houses", "_law_letters_here"] (defScope sAllNone) := ⟨rfl, rfl, rfl, by decide +kernel, rfl, by decide +kernel, by decide +kernel⟩
theorem ok_allnone {f f_wide f_lettersof : Addr} {fd fd_wide fd_lettersof : FuncData} (F : Fun K "_law_all_none" "_law_all_none" sAllNone f fd) (T : Txt mg t8 t6 tR tL)
    (G_wide : FnOk P w K mg base CX0 1 f_wide fd_wide ["_law_houses", "_law_rows_here"] spWide) (m_wide : mg "_law_wide" = some (.ref f_wide)) (k_wide : PySem.W.keepIn K (.ref f_wide) = true) (b_wide : Binds K fd_wide ["_law_houses", "_law_rows_here"] [])
    (G_lettersof : FnOk P w K mg base CX0 1 f_lettersof fd_lettersof ["_law_amount"] spLettersOf) (m_lettersof : mg "_law_letters_of" = some (.ref f_lettersof)) (k_lettersof : PySem.W.keepIn K (.ref f_lettersof) = true) (b_lettersof : Binds K fd_lettersof ["_law_amount"] []) : FnOk P w K mg base CX0 2 f fd ["_law_houses", "_law_letters_here"] spAllNone := by
  refine F.ok sc_allnone (fun vs H Q E h => ?_) (fun cdv A outer s H vs Q E hr h => ?_)
  · obtain ⟨x, y, hs, ls, rfl, _⟩ := h
    rfl
  · obtain ⟨x, y, hs, ls, rfl, hX0, hY0, gh, gl, q⟩ := h
    have sl0 : sizeLine = 16777216 := sizeLine_eq
    have hX : DaAt H x (.tup (hs.map houseDa)) := hX0
    have hY : DaAt H y (.tup (ls.map letterDa)) := hY0
    refine ⟨_, (SSs.h (qss_cons (qs_set (i := 2) sc_allnone.nd rfl (Or.inl rfl) (qe_lst (qa_cons qe_non (qa_cons qe_int (qa_cons qe_bl (qa_cons qe_str (qa_cons (qe_tup qa_nil) (qa_cons qe_dnewK (qa_cons (qV 0) (qa_cons (qe_tup (qa_cons (qV 0) qa_nil)) (qa_cons (qe_lst (qa_cons (qV 0) (qa_cons (qV 1) qa_nil))) (qa_cons (qe_tup (qa_cons (qV 0) (qa_cons (qV 1) (qa_cons (qe_tup qa_nil) qa_nil)))) qa_nil)))))))))))) (qss_cons (qs_set (i := 2) sc_allnone.nd rfl (Or.inl rfl) (qe_op ⟨op_cat⟩ (qV 2) (qe_lst (qa_cons (qe_tup (qa_cons (qe_tup qa_nil) (qa_cons (qe_tup qa_nil) qa_nil))) (qa_cons (qe_tup (qa_cons qe_non (qa_cons (qe_tup qa_nil) qa_nil))) (qa_cons (qe_tup (qa_cons (qe_tup (qa_cons qe_non qa_nil)) (qa_cons (qe_tup qa_nil) qa_nil))) (qa_cons (qe_tup (qa_cons (qe_call G_wide hr rfl m_wide k_wide b_wide .nil pass0 (qa_cons qe_int (qa_cons qe_int qa_nil))) (qa_cons (qe_tup qa_nil) qa_nil))) (qa_cons (qe_tup (qa_cons (qe_call G_wide hr rfl m_wide k_wide b_wide .nil pass0 (qa_cons qe_int (qa_cons qe_int qa_nil))) (qa_cons (qe_tup qa_nil) qa_nil))) qa_nil)))))))) (qss_cons (qs_set (i := 2) sc_allnone.nd rfl (Or.inl rfl) (qe_op ⟨op_cat⟩ (qV 2) (qe_lst (qa_cons (qe_tup (qa_cons (qV 1) (qa_cons (qV 0) qa_nil))) (qa_cons (qe_tup (qa_cons (qe_callTy ⟨call_list_of⟩ rfl T.list PyProof.Rows.boot_list (qa_cons (qV 0) qa_nil)) (qa_cons (qV 1) qa_nil))) qa_nil))))) (qss_cons (qs_set (i := 3) sc_allnone.nd rfl (Or.inl rfl) (qe_call G_wide hr rfl m_wide k_wide b_wide .nil pass0 (qa_cons qe_int (qa_cons qe_int qa_nil)))) (qss_cons (qs_set (i := 2) sc_allnone.nd rfl (Or.inl rfl) (qe_op ⟨op_cat⟩ (qV 2) (qe_lst (qa_cons (qe_tup (qa_cons (qV 3) (qa_cons (qe_tup (qa_cons (qe_tup (qa_cons qe_str (qa_cons qe_str (qa_cons qe_int (qa_cons qe_non qa_nil))))) qa_nil)) qa_nil))) (qa_cons (qe_tup (qa_cons (qV 3) (qa_cons (qe_tup (qa_cons (qe_tup (qa_cons qe_str (qa_cons qe_str (qa_cons qe_int (qa_cons qe_int qa_nil))))) qa_nil)) qa_nil))) qa_nil))))) (qss_cons (qs_expr (qe_bm PySem.F.plainAttrs_list PySem.F.slot_list_append PySem.F.type_list_append ⟨mt_append⟩ (qV 2) (qa_cons (qe_tup (qa_cons (qe_op ⟨oCatA⟩ (qV 3) (qe_tup (qa_cons (qe_tup (qa_cons qe_str (qa_cons qe_int (qa_cons qe_int (qa_cons qe_int (qa_cons (qe_tup (qa_cons (qe_tup (qa_cons (qe_tup (qa_cons qe_str (qa_cons qe_int qa_nil))) qa_nil)) qa_nil)) qa_nil)))))) qa_nil))) (qa_cons (qe_tup qa_nil) qa_nil))) qa_nil))) (qss_cons (qs_set (i := 2) sc_allnone.nd rfl (Or.inl rfl) (qe_op ⟨op_cat⟩ (qV 2) (qe_lst (qa_cons (qe_tup (qa_cons (qe_call G_wide hr rfl m_wide k_wide b_wide .nil pass0 (qa_cons qe_int (qa_cons qe_int qa_nil))) (qa_cons (qe_call G_lettersof hr rfl m_lettersof k_lettersof b_lettersof .nil pass0 (qa_cons qe_int qa_nil)) qa_nil))) (qa_cons (qe_tup (qa_cons (qe_call G_wide hr rfl m_wide k_wide b_wide .nil pass0 (qa_cons qe_int (qa_cons qe_int qa_nil))) (qa_cons (qe_rev (qe_call G_lettersof hr rfl m_lettersof k_lettersof b_lettersof .nil pass0 (qa_cons qe_int qa_nil))) qa_nil))) qa_nil))))) (qss_one (qs_ret (qV 2))))))))))), ?_⟩
    show tSeq (tAsg _ _) _ _ [some x, some y, none, none] H
    refine (set_lstS (fun z => [some x, some y, z, none]) (fun _ => rfl) (tds_cons td_non (tds_cons td_int (tds_cons td_bl (tds_cons (td_str (by decide +kernel)) (tds_cons (td_tup tds_nil (by exact Nat.le_of_ble_eq_true rfl)) (tds_cons td_dic (tds_cons (td_v0 (hX.same (Same.refl _))) (tds_cons (td_tup (tds_cons (td_v0 (hX.same (Same.refl _))) tds_nil) (by exact Nat.le_of_ble_eq_true rfl)) (tds_cons (td_lst (tds_cons (td_v0 (hX.same (Same.refl _))) (tds_cons (td_v1 (hY.same (Same.refl _))) tds_nil)) (by exact Nat.le_of_ble_eq_true rfl)) (tds_cons (td_tup (tds_cons (td_v0 (hX.same (Same.refl _))) (tds_cons (td_v1 (hY.same (Same.refl _))) (tds_cons (td_tup tds_nil (by exact Nat.le_of_ble_eq_true rfl)) tds_nil))) (by exact Nat.le_of_ble_eq_true rfl)) tds_nil)))))))))) (by exact Nat.le_of_ble_eq_true rfl) fun a1 vs1 H1 fa1 s1 ea1 hv1 => ?_)
    obtain ⟨ds1, hv1, B1, l1⟩ : ∃ ds, DaAs H1 vs1 ds ∧ (∀ d ∈ ds, ledgerD d = false) ∧ ds.length ≤ 15 := ⟨_, hv1, (fa_cons rfl (fa_cons rfl (fa_cons rfl (fa_cons rfl (fa_cons rfl (fa_cons rfl (fa_cons no_da (fa_cons rfl (fa_cons rfl (fa_cons rfl fa_nil)))))))))), by simp only [List.length_append, List.length_map, List.length_take, List.length_drop, List.length_cons, List.length_nil, wideL, List.length_range]; omega⟩
    refine (set_catS (a := a1) (fun z => [some x, some y, z, none]) (fun _ => rfl) rfl ea1 hv1 (tds_cons (td_tup (tds_cons (td_tup tds_nil (by exact Nat.le_of_ble_eq_true rfl)) (tds_cons (td_tup tds_nil (by exact Nat.le_of_ble_eq_true rfl)) tds_nil)) (by exact Nat.le_of_ble_eq_true rfl)) (tds_cons (td_tup (tds_cons td_non (tds_cons (td_tup tds_nil (by exact Nat.le_of_ble_eq_true rfl)) tds_nil)) (by exact Nat.le_of_ble_eq_true rfl)) (tds_cons (td_tup (tds_cons (td_tup (tds_cons td_non tds_nil) (by exact Nat.le_of_ble_eq_true rfl)) (tds_cons (td_tup tds_nil (by exact Nat.le_of_ble_eq_true rfl)) tds_nil)) (by exact Nat.le_of_ble_eq_true rfl)) (tds_cons (td_tup (tds_cons (td_wide (n := 7) (m := 1) (by decide) (by decide)) (tds_cons (td_tup tds_nil (by exact Nat.le_of_ble_eq_true rfl)) tds_nil)) (by exact Nat.le_of_ble_eq_true rfl)) (tds_cons (td_tup (tds_cons (td_wide (n := 5) (m := 5) (by decide) (by decide)) (tds_cons (td_tup tds_nil (by exact Nat.le_of_ble_eq_true rfl)) tds_nil)) (by exact Nat.le_of_ble_eq_true rfl)) tds_nil))))) (by simp only [List.length_append, List.length_map, List.length_take, List.length_drop, List.length_cons, List.length_nil, wideL, List.length_range]; omega) fun a2 vs2 H2 fa2 s2 ea2 hv2 => ?_)
    have S2 := s1.trans s2
    obtain ⟨ds2, hv2, B2, l2⟩ : ∃ ds, DaAs H2 vs2 ds ∧ (∀ d ∈ ds, ledgerD d = false) ∧ ds.length ≤ 25 := ⟨_, hv2, fa_app B1 (fa_cons rfl (fa_cons rfl (fa_cons rfl (fa_cons w71 (fa_cons w55 fa_nil))))), by simp only [List.length_append, List.length_map, List.length_take, List.length_drop, List.length_cons, List.length_nil, wideL, List.length_range]; omega⟩
    refine (set_catS (a := a2) (fun z => [some x, some y, z, none]) (fun _ => rfl) rfl ea2 hv2 (tds_cons (td_tup (tds_cons (td_v1 (hY.same S2)) (tds_cons (td_v0 (hX.same S2)) tds_nil)) (by exact Nat.le_of_ble_eq_true rfl)) (tds_cons (td_tup (tds_cons (td_listC (td_v0 (hX.same S2))) (tds_cons (td_v1 (hY.same S2)) tds_nil)) (by exact Nat.le_of_ble_eq_true rfl)) tds_nil)) (by simp only [List.length_append, List.length_map, List.length_take, List.length_drop, List.length_cons, List.length_nil, wideL, List.length_range]; omega) fun a3 vs3 H3 fa3 s3 ea3 hv3 => ?_)
    have S3 := S2.trans s3
    obtain ⟨ds3, hv3, B3, l3⟩ : ∃ ds, DaAs H3 vs3 ds ∧ (∀ d ∈ ds, ledgerD d = false) ∧ ds.length ≤ 35 := ⟨_, hv3, fa_app B2 (fa_cons no_dl (fa_cons rfl fa_nil)), by simp only [List.length_append, List.length_map, List.length_take, List.length_drop, List.length_cons, List.length_nil, wideL, List.length_range]; omega⟩
    refine asg_h fun Uz hUz => ?_
    refine TD.use (σ := [some x, some y, some (.ref a3), none]) (td_wide (n := 2) (m := 3) (by decide) (by decide)) (Same.refl _) fun w H4 s4 hW => ?_
    have S4 := S3.trans s4
    subst hUz
    show tSeq (tAsg _ _) _ _ [some x, some y, some (.ref a3), some w] H4
    refine (set_catS (a := a3) (fun z => [some x, some y, z, some w]) (fun _ => rfl) rfl (s4 _ _ ea3) (hv3.same s4) (tds_cons (td_tup (tds_cons (td_v3 (hW.same (Same.refl _))) (tds_cons (td_tup (tds_cons (td_tup (tds_cons (td_str (by decide +kernel)) (tds_cons (td_str (by decide +kernel)) (tds_cons td_int (tds_cons td_non tds_nil)))) (by exact Nat.le_of_ble_eq_true rfl)) tds_nil) (by exact Nat.le_of_ble_eq_true rfl)) tds_nil)) (by exact Nat.le_of_ble_eq_true rfl)) (tds_cons (td_tup (tds_cons (td_v3 (hW.same (Same.refl _))) (tds_cons (td_tup (tds_cons (td_tup (tds_cons (td_str (by decide +kernel)) (tds_cons (td_str (by decide +kernel)) (tds_cons td_int (tds_cons td_int tds_nil)))) (by exact Nat.le_of_ble_eq_true rfl)) tds_nil) (by exact Nat.le_of_ble_eq_true rfl)) tds_nil)) (by exact Nat.le_of_ble_eq_true rfl)) tds_nil)) (by simp only [List.length_append, List.length_map, List.length_take, List.length_drop, List.length_cons, List.length_nil, wideL, List.length_range]; omega) fun a5 vs5 H5 fa5 s5 ea5 hv5 => ?_)
    have S5 := S4.trans s5
    obtain ⟨ds5, hv5, B5, l5⟩ : ∃ ds, DaAs H5 vs5 ds ∧ (∀ d ∈ ds, ledgerD d = false) ∧ ds.length ≤ 45 := ⟨_, hv5, fa_app B3 (fa_cons w23a (fa_cons w23b fa_nil)), by simp only [List.length_append, List.length_map, List.length_take, List.length_drop, List.length_cons, List.length_nil, wideL, List.length_range]; omega⟩
    have fr5 : H a5 = none := fresh_up S4 fa5
    refine (do_appS (a := a5) rfl ea5 hv5 (by omega) (td_tup (tds_cons (td_cat (td_v3 (hW.same (s5))) (td_tup (tds_cons (td_tup (tds_cons (td_str (by decide +kernel)) (tds_cons td_int (tds_cons td_int (tds_cons td_int (tds_cons (td_tup (tds_cons (td_tup (tds_cons (td_tup (tds_cons (td_str (by decide +kernel)) (tds_cons td_int tds_nil)) (by exact Nat.le_of_ble_eq_true rfl)) tds_nil) (by exact Nat.le_of_ble_eq_true rfl)) tds_nil) (by exact Nat.le_of_ble_eq_true rfl)) tds_nil))))) (by exact Nat.le_of_ble_eq_true rfl)) tds_nil) (by exact Nat.le_of_ble_eq_true rfl)) (by simp only [List.length_append, List.length_map, List.length_take, List.length_drop, List.length_cons, List.length_nil, wideL, List.length_range]; omega)) (tds_cons (td_tup tds_nil (by exact Nat.le_of_ble_eq_true rfl)) tds_nil)) (by exact Nat.le_of_ble_eq_true rfl)) fun H6 vs6 k6 sb6 ea6 hv6 => ?_)
    have S6 : Same H H6 := same_new S5 fr5 sb6
    obtain ⟨ds6, hv6, B6, l6⟩ : ∃ ds, DaAs H6 vs6 ds ∧ (∀ d ∈ ds, ledgerD d = false) ∧ ds.length ≤ 55 := ⟨_, hv6, fa_app B5 (fa_cons w23c fa_nil), by simp only [List.length_append, List.length_map, List.length_take, List.length_drop, List.length_cons, List.length_nil, wideL, List.length_range]; omega⟩
    refine (set_catS (a := a5) (fun z => [some x, some y, z, some w]) (fun _ => rfl) rfl ea6 hv6 (tds_cons (td_tup (tds_cons (td_wide (n := 2) (m := 12) (by decide) (by decide)) (tds_cons (td_lettersof (n := 25) (by decide)) tds_nil)) (by exact Nat.le_of_ble_eq_true rfl)) (tds_cons (td_tup (tds_cons (td_wide (n := 2) (m := 12) (by decide) (by decide)) (tds_cons (td_rev (td_lettersof (n := 24) (by decide))) tds_nil)) (by exact Nat.le_of_ble_eq_true rfl)) tds_nil)) (by simp only [List.length_append, List.length_map, List.length_take, List.length_drop, List.length_cons, List.length_nil, wideL, List.length_range]; omega) fun a7 vs7 H7 fa7 s7 ea7 hv7 => ?_)
    obtain ⟨ds7, hv7, B7, l7⟩ : ∃ ds, DaAs H7 vs7 ds ∧ (∀ d ∈ ds, ledgerD d = false) ∧ ds.length ≤ 65 := ⟨_, hv7, fa_app B6 (fa_cons w212a (fa_cons w212b fa_nil)), by simp only [List.length_append, List.length_map, List.length_take, List.length_drop, List.length_cons, List.length_nil, wideL, List.length_range]; omega⟩
    exact q a7 vs7 ds7 H7 ea7 hv7 (by omega) B7 (S6.trans s7)
end
end K02
namespace K02
open PySem L2
theorem kp_take {p : Addr} {H H' : Hp} (h : PackAt H p) (h' : PackAt H' p) (s : SameB p H H') : Kp H H' := by
  obtain ⟨n, e, _⟩ := h
  obtain ⟨n', e', _⟩ := h'
  refine ⟨fun b xs z => s b _ (fun w => by rw [w, e] at z; cases z) z, fun b xs z => ?_, fun b ks z => ⟨_, s b _ (fun w => by rw [w, e] at z; cases z) z⟩⟩
  by_cases w : b = p
  · subst w; exact ⟨_, e'⟩
  · exact ⟨_, s b _ w z⟩
theorem paired_of {α : Type} {H : Hp} {R : V → α → Prop} {f : α → Da} : ∀ {vs : List V} {xs : List α}, DaAs H vs (xs.map f) → (∀ v x, DaAt H v (f x) → R v x) → Paired R vs xs
  | [], [], .nil, _ => .nil
  | _ :: _, _ :: _, .cons h r, k => .cons (k _ _ h) (paired_of r k)
section
variable {H : Hp} {v : V}
theorem RowAt.off {r : Row} (h : DaAt H v (rowDa r)) : RowAt H v r := by
  obtain ⟨a, vs, rfl, e, _, rr⟩ := h.tupE
  obtain ⟨_, _, rfl, q1, q2⟩ := rr.two
  cases q1; cases q2; exact ⟨a, rfl, e⟩
theorem RunAt.off {r : List Row} (h : DaAt H v (runDa r)) : RunAt H v r := by
  obtain ⟨a, vs, rfl, e, _, rr⟩ := h.tupE
  exact ⟨a, vs, rfl, e, paired_of rr fun _ _ => RowAt.off⟩
theorem RunsAt.off {r : List (List Row)} (h : DaAt H v (runsDa r)) : RunsAt H v r := by
  obtain ⟨a, vs, rfl, e, _, rr⟩ := h.tupE
  exact ⟨a, vs, rfl, e, paired_of rr fun _ _ => RunAt.off⟩
theorem HouseAt.off {h : House} (d : DaAt H v (houseDa h)) : HouseAt H v h := by
  obtain ⟨a, vs, rfl, e, _, rr⟩ := d.tupE
  obtain ⟨_, _, _, _, b, rfl, q1, q2, q3, q4, q5⟩ := rr.five
  cases q1; cases q2; cases q3; cases q4; exact ⟨a, b, rfl, e, RunsAt.off q5⟩
theorem HousesAt.off {hs : List House} (d : DaAt H v (housesDa hs)) : HousesAt H v hs := by
  obtain ⟨a, vs, rfl, e, _, rr⟩ := d.tupE
  exact ⟨a, vs, rfl, e, paired_of rr fun _ _ => HouseAt.off⟩
theorem most_off {m : Option Int} (h : DaAt H v (mostDa m)) : v = mostV m := by
  cases m <;> cases h <;> rfl
theorem LetterAt.off {l : Letter} (d : DaAt H v (letterDa l)) : LetterAt H v l := by
  obtain ⟨a, vs, rfl, e, _, rr⟩ := d.tupE
  obtain ⟨_, _, _, b, rfl, q1, q2, q3, q4⟩ := rr.four
  cases q1; cases q2; cases q3; cases most_off q4; exact ⟨a, rfl, e⟩
theorem LettersAt.off {ls : List Letter} (d : DaAt H v (lettersDa ls)) : LettersAt H v ls := by
  obtain ⟨a, vs, rfl, e, _, rr⟩ := d.tupE
  exact ⟨a, vs, rfl, e, paired_of rr fun _ _ => LetterAt.off⟩
end
section
variable {g : BI → TG} {te : BI → TE} {σ0 : St} {D : Addr} {End : Hp → Prop} {H1 : Hp}
theorem comp_tupD {K : PySem.W.Frag} {a : Addr} {xs : List V} {ds : List Da} {f : Da → Da} (hD : H1 D = none) (ha : H1 a = some (.tup xs)) (hx : DaAs H1 xs ds) (few : ds.length ≤ 1000)
    (turn : ∀ (x : V) (d : Da) (H' : Hp), d ∈ ds → DaAt H' x d → Same H1 H' → ∀ b (R : VK), (∀ v H'', Same H' H'' → DaAt H'' v (f d) → R v H'') → g b x σ0 H' fun σ2 H2 => te b σ2 H2 R)
    (fin : ∀ vs H', Same H1 H' → H' D = some (.lst vs) → DaAs H' vs (ds.map f) → End H') :
    ∃ W : Nat → Nat → Hp → Prop, (∃ m, W 0 m (upd H1 D (.lst []))) ∧ ∀ b, CTurn (Itt K a) (g b) (tYes) (aPut D (te b)) σ0 End W :=
  comp_tup (xs := xs) (fun i H' => ∃ vs, H' D = some (.lst vs) ∧ Same H1 H' ∧ DaAs H' vs ((ds.take i).map f)) ⟨[], upd_same, (Same.refl H1).upd hD, .nil⟩ (fun i H' _ ⟨_, _, s, _⟩ => SqT.of (s _ _ ha)) (fun H' ⟨vs, e, s, h⟩ => fin vs H' s e (by rw [hx.len, List.take_length] at h; exact h)) (fun i x H' hi hlt ⟨vs, e, s, h⟩ b => by
    obtain ⟨d, hd, hxd⟩ := hx.get hi
    refine turn x d H' (List.mem_of_getElem? hd) (hxd.same s) s b _ fun v H'' s2 hv => ⟨vs, s2 _ _ e, by have sl0 : sizeLine = 16777216 := sizeLine_eq; have := h.len; rw [List.length_map, List.length_take] at this; omega, nx hlt ?_⟩
    refine ⟨vs ++ [v], upd_same, fun c u z => by rw [upd_ne (ne_of_none z hD)]; exact (s.trans s2) c u z, ?_⟩
    have z : (ds.take (i + 1)).map f = (ds.take i).map f ++ [f d] := by rw [List.take_add_one, hd, List.map_append]; rfl
    rw [z]
    exact ((h.same s2).app (.cons hv .nil)).kp (Kp.put (s2 _ _ e)))
end
noncomputable def putH {α : Type} (l : List α) (k : Nat) (x : α) : List α := l.take k ++ [x] ++ l.drop (k + 1)
theorem putH_split {α : Type} {l : List α} {k : Nat} {y : α} (h : l[k]? = some y) : l = l.take k ++ [y] ++ l.drop (k + 1) := by
  obtain ⟨li, fi⟩ := List.getElem?_eq_some_iff.mp h
  rw [List.append_assoc, List.singleton_append, ← fi, List.getElem_cons_drop, List.take_append_drop]
theorem putH_len {α : Type} {l : List α} {k : Nat} {x y : α} (h : l[k]? = some y) : (putH l k x).length = l.length := by
  conv => rhs; rw [putH_split h]
  unfold putH
  simp
theorem putH_map {α β : Type} {f : α → β} {l : List α} {k : Nat} {x y : α} (h : l[k]? = some y) (e : f x = f y) : (putH l k x).map f = l.map f := by
  conv => rhs; rw [putH_split h]
  unfold putH
  simp [e]
theorem putH_flat {α β : Type} {f : α → List β} {l : List α} {k : Nat} {x y : α} (h : l[k]? = some y) (e : f x = f y) : (putH l k x).flatMap f = l.flatMap f := by
  conv => rhs; rw [putH_split h]
  unfold putH
  simp [e]
theorem putH_mem {α : Type} {l : List α} {k : Nat} {x z : α} (h : z ∈ putH l k x) : z ∈ l ∨ z = x := by
  unfold putH at h
  rw [List.mem_append, List.mem_append, List.mem_singleton] at h
  rcases h with (h | h) | h
  · exact .inl (List.mem_of_mem_take h)
  · exact .inr h
  · exact .inl (List.mem_of_mem_drop h)
theorem putH_keep {α : Type} {l : List α} {k : Nat} {x y z : α} (h : l[k]? = some y) (m : z ∈ l) : z = y ∨ z ∈ putH l k x := by
  rw [putH_split h, List.mem_append, List.mem_append, List.mem_singleton] at m
  unfold putH
  rw [List.mem_append, List.mem_append]
  rcases m with (m | m) | m
  · exact .inr (.inl (.inl m))
  · exact .inl m
  · exact .inr (.inr m)
theorem putH_in {α : Type} {l : List α} {k : Nat} {x : α} : x ∈ putH l k x := by
  unfold putH
  rw [List.mem_append, List.mem_append]
  exact .inl (.inr (List.mem_singleton.mpr rfl))
theorem good_put {hs : List House} {k : Nat} {h h' : House} (g : GoodHouses hs) (e : hs[k]? = some h) (n : h'.name = h.name) (m : namesH h' = namesH h) (gh : GoodHouse h') : GoodHouses (putH hs k h') ∧ namesOf (putH hs k h') = namesOf hs := by
  have e1 : namesOf (putH hs k h') = namesOf hs := putH_flat e m
  exact ⟨⟨by rw [putH_len e]; exact g.lo, by rw [putH_len e]; exact g.hi, fun z hz => (putH_mem hz).elim (g.all z) (fun w => w ▸ gh), by rw [putH_map e n]; exact g.names, by rw [e1]; exact g.rows, by rw [e1]; exact g.few⟩, e1⟩
theorem letters_put {hs : List House} {ls : List Letter} {k : Nat} {h h' : House} (g : GoodLetters hs ls) (e : hs[k]? = some h) (n : h'.name = h.name) (m : namesH h' = namesH h) : GoodLetters (putH hs k h') ls := by
  refine ⟨g.few, fun l hl => ?_, g.rise⟩
  obtain ⟨g1, g2, g3, g4, h1, m1, h2, m2, n1, n2, ne⟩ := g.all l hl
  have w : ∀ z ∈ hs, ∃ z' ∈ putH hs k h', namesH z' = namesH z ∧ z'.name = z.name := fun z hz => by
    rcases putH_keep (x := h') e hz with q | q
    · subst q; exact ⟨h', putH_in, m, n⟩
    · exact ⟨z, q, rfl, rfl⟩
  obtain ⟨z1, q1, a1, b1⟩ := w h1 m1
  obtain ⟨z2, q2, a2, b2⟩ := w h2 m2
  exact ⟨g1, g2, g3, g4, z1, q1, z2, q2, by rw [a1]; exact n1, by rw [a2]; exact n2, by rw [b1, b2]; exact ne⟩
theorem letter_put {hs : List House} {ls : List Letter} {k : Nat} {l l' : Letter} (g : GoodLetters hs ls) (e : ls[k]? = some l) (n : l'.1 = l.1) (h1 : 1 ≤ l'.2.1) (h2 : ∀ m, l'.2.2 = some m → l'.2.1 ≤ m) : GoodLetters hs (putH ls k l') := by
  refine ⟨by rw [putH_len e]; exact g.few, fun z hz => ?_, by rw [putH_map e n]; exact g.rise⟩
  rcases putH_mem hz with q | q
  · exact g.all z q
  · subst q
    have gl := g.all l (List.mem_of_getElem? e)
    refine ⟨by rw [n]; exact gl.sent, by rw [n]; exact gl.taken, h1, h2, ?_⟩
    rw [n]
    exact gl.houses
theorem run_moved {rs : List Row} (g : GoodRun rs) (m : Int) : GoodRun (rs.map fun r => (r.1, r.2 + m)) := by
  refine ⟨fun z => g.ne (List.map_eq_nil_iff.mp z), by rw [List.length_map]; exact g.few, fun r hr => ?_, ?_⟩
  · obtain ⟨x, hx, rfl⟩ := List.mem_map.mp hr
    exact g.names x hx
  · have := g.rise
    rw [List.pairwise_map] at this
    rw [List.map_map, List.pairwise_map]
    exact this.imp fun {a b} z => by show a.2 + m < b.2 + m; omega
theorem runs_moved {h : House} {k : Nat} {r r' : List Row} (e : h.runs[k]? = some r) (n : r'.map Prod.fst = r.map Prod.fst) : ((putH h.runs k r').flatten).map Prod.fst = (h.runs.flatten).map Prod.fst := by
  rw [List.map_flatten, List.map_flatten, putH_map e n]
theorem td_v16 {H : Hp} {d : Da} {v : V} {r : St} {o0 o1 o2 o3 o4 o5 o6 o7 o8 o9 o10 o11 o12 o13 o14 o15 : Option V} (h : DaAt H v d) : TD (tV 16) (o0 :: o1 :: o2 :: o3 :: o4 :: o5 :: o6 :: o7 :: o8 :: o9 :: o10 :: o11 :: o12 :: o13 :: o14 :: o15 :: some v :: r) H d := td_v rfl h
theorem td_v17 {H : Hp} {d : Da} {v : V} {r : St} {o0 o1 o2 o3 o4 o5 o6 o7 o8 o9 o10 o11 o12 o13 o14 o15 o16 : Option V} (h : DaAt H v d) : TD (tV 17) (o0 :: o1 :: o2 :: o3 :: o4 :: o5 :: o6 :: o7 :: o8 :: o9 :: o10 :: o11 :: o12 :: o13 :: o14 :: o15 :: o16 :: some v :: r) H d := td_v rfl h
theorem td_v18 {H : Hp} {d : Da} {v : V} {r : St} {o0 o1 o2 o3 o4 o5 o6 o7 o8 o9 o10 o11 o12 o13 o14 o15 o16 o17 : Option V} (h : DaAt H v d) : TD (tV 18) (o0 :: o1 :: o2 :: o3 :: o4 :: o5 :: o6 :: o7 :: o8 :: o9 :: o10 :: o11 :: o12 :: o13 :: o14 :: o15 :: o16 :: o17 :: some v :: r) H d := td_v rfl h
noncomputable def spBent : Sp := fun vs H Q _ => ∃ (p : Addr) (x : V) (hs : List House) (ls : List Letter), vs = [.ref p, x] ∧ PackAt H p ∧ DaAt H x (.tup [housesDa hs, lettersDa ls]) ∧ GoodHouses hs ∧ GoodLetters hs ls ∧
  ∀ (y : V) (hs' : List House) (ls' : List Letter) (H' : Hp), DaAt H' y (.tup [housesDa hs', lettersDa ls']) → GoodHouses hs' → GoodLetters hs' ls' → namesOf hs' = namesOf hs → SameB p H H' → Q y H'
section
variable {P : Program} {w : World} {K : PySem.W.Frag} {mg : Str → Option Value} {base : Heap} {t8 t6 tR tL : Tok}
theorem sc_bent : FnScope ["_law_pack_here", "_law_ledger_here", "_law_houses", "_law_letters_here", "_law_pick", "_law_more", "_law_at", "_law_name", "_law_low", "_law_high", "_law_drift", "_law_runs", "_law_k", "_law_one", "_law_other", "_law_least", "_law_most", "_law_moved", "_law_house_here"] ["_law_pack_here", "_law_ledger_here"] (defScope sBent) := ⟨rfl, rfl, rfl, by decide +kernel, rfl, by decide +kernel, by decide +kernel⟩
theorem ok_bent {f f_take : Addr} {fd fd_take : FuncData} (F : Fun K "_law_bent" "_law_bent" sBent f fd) (T : Txt mg t8 t6 tR tL)
    (G_take : FnOk P w K mg base CX0 1 f_take fd_take ["_law_pack_here", "_law_size"] spTake) (m_take : mg "_law_take" = some (.ref f_take)) (k_take : PySem.W.keepIn K (.ref f_take) = true) (b_take : Binds K fd_take ["_law_pack_here", "_law_size"] []) : FnOk P w K mg base CX0 2 f fd ["_law_pack_here", "_law_ledger_here"] spBent := by
  refine F.ok sc_bent (fun vs H Q E h => ?_) (fun cdv A outer s H vs Q E hr h => ?_)
  · obtain ⟨p, x, hs, ls, rfl, _⟩ := h
    rfl
  · obtain ⟨p, x, hs, ls, rfl, hp, hx, gh, gl, q⟩ := h
    have sl0 : sizeLine = 16777216 := sizeLine_eq
    have lh6 := gh.hi
    have lh1 := gh.lo
    have l24 := gl.few
    obtain ⟨a, us, rfl, ea, _, ru⟩ := hx.tupE
    obtain ⟨vh, vl, rfl, hH0, hL0⟩ := ru.two
    have hH : DaAt H vh (.tup (hs.map houseDa)) := hH0
    have hL : DaAt H vl (.tup (ls.map letterDa)) := hL0
    refine ⟨_, (SSs.h (qss_cons (qs_asg (qV 1) (qg_tup rfl (qgs_cons (qg_name (i := 2) sc_bent.nd rfl (Or.inl rfl)) (qgs_cons (qg_name (i := 3) sc_bent.nd rfl (Or.inl rfl)) qgs_nil)))) (qss_cons (qs_set (i := 4) sc_bent.nd rfl (Or.inl rfl) (qe_call G_take hr rfl m_take k_take b_take .nil pass0 (qa_cons (qV 0) (qa_cons qe_int qa_nil)))) (qss_cons (qs_set (i := 5) sc_bent.nd rfl (Or.inr rfl) (qe_ix ⟨iIx⟩ (qe_lst (qa_cons qe_int (qa_cons (qe_un ⟨uNeg⟩ qe_int) (qa_cons qe_int (qa_cons (qe_un ⟨uNeg⟩ qe_int) (qa_cons qe_int (qa_cons (qe_un ⟨uNeg⟩ qe_int) (qa_cons qe_int (qa_cons (qe_un ⟨uNeg⟩ qe_int) qa_nil))))))))) (qe_call G_take hr rfl m_take k_take b_take .nil pass0 (qa_cons (qV 0) (qa_cons qe_int qa_nil))) (fun _ _ => rfl))) (qss_cons (qs_set (i := 6) sc_bent.nd rfl (Or.inl rfl) (qe_call G_take hr rfl m_take k_take b_take .nil pass0 (qa_cons (qV 0) (qa_cons (qe_callB ⟨call_len_seq⟩ rfl T.len PySem.boot_len (qa_cons (qV 2) qa_nil)) qa_nil)))) (qss_cons (qs_asg (qe_ix ⟨iIxT⟩ (qV 2) (qV 6) (fun _ _ => rfl)) (qg_tup rfl (qgs_cons (qg_name (i := 7) sc_bent.nd rfl (Or.inl rfl)) (qgs_cons (qg_name (i := 8) sc_bent.nd rfl (Or.inl rfl)) (qgs_cons (qg_name (i := 9) sc_bent.nd rfl (Or.inl rfl)) (qgs_cons (qg_name (i := 10) sc_bent.nd rfl (Or.inl rfl)) (qgs_cons (qg_name (i := 11) sc_bent.nd rfl (Or.inl rfl)) qgs_nil))))))) (qss_cons (qs_if (qtAnd (qtC ⟨oGt⟩ (qV 4) qe_int (nomark _)) (qw_and1 (qtC ⟨(oNeT hr.units0)⟩ (qV 3) (qe_tup qa_nil) (nomark _)))) (qss_cons (qs_set (i := 12) sc_bent.nd rfl (Or.inl rfl) (qe_call G_take hr rfl m_take k_take b_take .nil pass0 (qa_cons (qV 0) (qa_cons (qe_callB ⟨call_len_seq⟩ rfl T.len PySem.boot_len (qa_cons (qV 3) qa_nil)) qa_nil)))) (qss_cons (qs_asg (qe_ix ⟨iIxT⟩ (qV 3) (qV 12) (fun _ _ => rfl)) (qg_tup rfl (qgs_cons (qg_name (i := 13) sc_bent.nd rfl (Or.inl rfl)) (qgs_cons (qg_name (i := 14) sc_bent.nd rfl (Or.inl rfl)) (qgs_cons (qg_name (i := 15) sc_bent.nd rfl (Or.inl rfl)) (qgs_cons (qg_name (i := 16) sc_bent.nd rfl (Or.inl rfl)) qgs_nil)))))) (qss_cons (qs_set (i := 15) sc_bent.nd rfl (Or.inl rfl) (qe_callB ⟨(call_max2 rfl)⟩ rfl T.max PyProof.Rows.boot_max (qa_cons qe_int (qa_cons (qe_op ⟨oAdd⟩ (qV 15) (qV 5)) qa_nil)))) (qss_cons (qs_if (qt_cmp (qc_notN (qV 16))) (qss_one (qs_set (i := 16) sc_bent.nd rfl (Or.inl rfl) (qe_callB ⟨(call_max2 rfl)⟩ rfl T.max PyProof.Rows.boot_max (qa_cons (qV 15) (qa_cons (qe_op ⟨oSub⟩ (qV 16) (qe_op ⟨oMul⟩ (qe_callB ⟨call_abs⟩ rfl T.abs PyProof.Rows.boot_abs (qa_cons (qV 5) qa_nil)) (qe_op ⟨oSub⟩ (qV 4) qe_int))) qa_nil))))) qss_nil) (qss_one (qs_ret (qe_tup (qa_cons (qV 2) (qa_cons (qe_op ⟨oCatA⟩ (qe_op ⟨oCatA⟩ (qe_slice ⟨iSlA⟩ (qV 3) qo_none (qoI (qV 12))) (qe_tup (qa_cons (qe_tup (qa_cons (qV 13) (qa_cons (qV 14) (qa_cons (qV 15) (qa_cons (qV 16) qa_nil))))) qa_nil))) (qe_slice ⟨iSlA⟩ (qV 3) (qoI (qe_op ⟨oAdd⟩ (qV 12) qe_int)) qo_none)) qa_nil))))))))) qss_nil) (qss_cons (qs_if (qtC ⟨oEq⟩ (qV 4) qe_int (nomark _)) (qss_one (qs_set (i := 8) sc_bent.nd rfl (Or.inl rfl) (qe_callB ⟨(call_min2 rfl)⟩ rfl T.min PyProof.Rows.boot_min (qa_cons (qV 9) (qa_cons (qe_op ⟨oAdd⟩ (qV 8) (qV 5)) qa_nil))))) qss_nil) (qss_cons (qs_if (qtC ⟨oEq⟩ (qV 4) qe_int (nomark _)) (qss_one (qs_set (i := 9) sc_bent.nd rfl (Or.inl rfl) (qe_callB ⟨(call_max2 rfl)⟩ rfl T.max PyProof.Rows.boot_max (qa_cons (qV 8) (qa_cons (qe_op ⟨oAdd⟩ (qV 9) (qV 5)) qa_nil))))) qss_nil) (qss_cons (qs_if (qtC ⟨oEq⟩ (qV 4) qe_int (nomark _)) (qss_one (qs_set (i := 10) sc_bent.nd rfl (Or.inl rfl) (qe_callB ⟨(call_max2 rfl)⟩ rfl T.max PyProof.Rows.boot_max (qa_cons qe_int (qa_cons (qe_op ⟨oAdd⟩ (qV 10) (qV 5)) qa_nil))))) qss_nil) (qss_cons (qs_if (qtAnd (qtC ⟨oGt⟩ (qV 4) qe_int (nomark _)) (qw_and1 (qtC ⟨(oNeT hr.units0)⟩ (qV 11) (qe_tup qa_nil) (nomark _)))) (qss_cons (qs_set (i := 12) sc_bent.nd rfl (Or.inl rfl) (qe_call G_take hr rfl m_take k_take b_take .nil pass0 (qa_cons (qV 0) (qa_cons (qe_callB ⟨call_len_seq⟩ rfl T.len PySem.boot_len (qa_cons (qV 11) qa_nil)) qa_nil)))) (qss_cons (qs_set (i := 17) sc_bent.nd rfl (Or.inl rfl) (qe_callTy ⟨call_tuple_of⟩ rfl T.tuple PyProof.Rows.boot_tuple (qa_cons (qe_comp (scX := defScope sBent) (own := ["_law_row", "_law_reading"]) (cap := ["_law_more"]) (ix := [5]) rfl rfl ⟨rfl, by decide +kernel, by decide +kernel, by decide +kernel, rfl, by decide +kernel⟩ (qi_tup (qe_ix ⟨iIxT⟩ (qV 11) (qV 12) (fun _ _ => rfl))) (fun b => (qg_tup rfl (qgs_cons (qg_name (i := 0) (show (["_law_row", "_law_reading", "_law_more"] : List Str).Nodup by decide +kernel) rfl (Or.inl rfl)) (qgs_cons (qg_name (i := 1) (show (["_law_row", "_law_reading", "_law_more"] : List Str).Nodup by decide +kernel) rfl (Or.inl rfl)) qgs_nil)))) (fun b => qif_nil) (fun b => (qe_tup (qa_cons (qV 0) (qa_cons (qe_op ⟨oAdd⟩ (qV 1) (qV 2)) qa_nil))))) qa_nil))) (qss_one (qs_set (i := 11) sc_bent.nd rfl (Or.inl rfl) (qe_op ⟨oCatA⟩ (qe_op ⟨oCatA⟩ (qe_slice ⟨iSlA⟩ (qV 11) qo_none (qoI (qV 12))) (qe_tup (qa_cons (qV 17) qa_nil))) (qe_slice ⟨iSlA⟩ (qV 11) (qoI (qe_op ⟨oAdd⟩ (qV 12) qe_int)) qo_none)))))) qss_nil) (qss_cons (qs_set (i := 18) sc_bent.nd rfl (Or.inl rfl) (qe_tup (qa_cons (qV 7) (qa_cons (qV 8) (qa_cons (qV 9) (qa_cons (qV 10) (qa_cons (qV 11) qa_nil))))))) (qss_one (qs_ret (qe_tup (qa_cons (qe_op ⟨oCatA⟩ (qe_op ⟨oCatA⟩ (qe_slice ⟨iSlA⟩ (qV 2) qo_none (qoI (qV 6))) (qe_tup (qa_cons (qV 18) qa_nil))) (qe_slice ⟨iSlA⟩ (qV 2) (qoI (qe_op ⟨oAdd⟩ (qV 6) qe_int)) qo_none)) (qa_cons (qV 3) qa_nil))))))))))))))))), ?_⟩
    refine asg_h fun Uz hUz => ?_
    refine ⟨a, _, rfl, SqT.of ea, rfl, _, _, rfl, _, _, rfl, rfl, ?_⟩
    subst hUz
    show tSeq (tAsg _ _) _ _ [some (.ref p), some (.ref a), some vh, some vl, none, none, none, none, none, none, none, none, none, none, none, none, none, none, none] H
    refine asg_h fun Uz hUz => ?_
    refine ⟨p, 6, rfl, hp, by decide, by decide, fun pk H1 pk0 pk1 hp1 sb1 => ?_⟩
    have k1 := kp_take hp hp1 sb1
    subst hUz
    show tSeq (tAsg _ _) _ _ [some (.ref p), some (.ref a), some vh, some vl, some (.int pk), none, none, none, none, none, none, none, none, none, none, none, none, none, none] H1
    refine asg_h fun Uz hUz => ?_
    refine ⟨by show 8 ≤ sizeLine; omega, fun l8 fl8 => ?_⟩
    have hp1' : PackAt (upd H1 l8 (.lst ([1, -1, 7, -7, 60, -60, 500, -500].map V.int))) p := hp1.new fl8
    refine ⟨p, 8, rfl, hp1', by decide, by decide, fun mi H2 mi0 mi1 hp2 sb2' => ?_⟩
    have el8 : H2 l8 = some (.lst ([1, -1, 7, -7, 60, -60, 500, -500].map V.int)) := sb2' l8 _ (fun z => by obtain ⟨n, e, _⟩ := hp1; rw [← z, fl8] at e; cases e) upd_same
    have sb2 : SameB p H1 H2 := fun c o n z => sb2' c o n (((Same.refl H1).upd fl8) c o z)
    obtain ⟨mi, rfl⟩ := Int.eq_ofNat_of_zero_le mi0
    obtain ⟨mo, emo, bmo⟩ : ∃ mo : Int, ([1, -1, 7, -7, 60, -60, 500, -500] : List Int)[mi]? = some mo ∧ -500 ≤ mo ∧ mo ≤ 500 := by
      have hi : mi < 8 := by omega
      match mi, hi with
      | 0, _ => exact ⟨_, rfl, by decide, by decide⟩
      | 1, _ => exact ⟨_, rfl, by decide, by decide⟩
      | 2, _ => exact ⟨_, rfl, by decide, by decide⟩
      | 3, _ => exact ⟨_, rfl, by decide, by decide⟩
      | 4, _ => exact ⟨_, rfl, by decide, by decide⟩
      | 5, _ => exact ⟨_, rfl, by decide, by decide⟩
      | 6, _ => exact ⟨_, rfl, by decide, by decide⟩
      | 7, _ => exact ⟨_, rfl, by decide, by decide⟩
    refine ixAt el8 (v := .int mo) (atI_nat (by rw [List.getElem?_map, emo]; rfl)) ?_
    have k2 := k1.trans (kp_take hp1 hp2 sb2)
    have SB2 : SameB p H H2 := sb1.trans sb2
    subst hUz
    show tSeq (tAsg _ _) _ _ [some (.ref p), some (.ref a), some vh, some vl, some (.int pk), some (.int mo), none, none, none, none, none, none, none, none, none, none, none, none, none] H2
    refine hideP fun Rz0 hRz0 => ?_
    obtain ⟨ch, wh, ez40, ech, _, rh⟩ := hH.tupE
    subst hRz0
    subst ez40
    have lwh := rh.len
    rw [List.length_map] at lwh
    refine asg_h fun Uz hUz => ?_
    refine ⟨ch, wh, rfl, .inr (SqT.of (k2.tup _ _ ech)), ?_⟩
    refine ⟨p, (wh.length : Int), rfl, hp2, by omega, by omega, fun kk H3 kk0 kk1 hp3 sb3 => ?_⟩
    obtain ⟨k, rfl⟩ := Int.eq_ofNat_of_zero_le kk0
    have k3 := k2.trans (kp_take hp2 hp3 sb3)
    have SB3 : SameB p H H3 := SB2.trans sb3
    have lk : k < hs.length := by omega
    obtain ⟨h, hk⟩ : ∃ h, hs[k]? = some h := ⟨_, List.getElem?_eq_getElem lk⟩
    obtain ⟨vk, hvk⟩ : ∃ v, wh[k]? = some v := ⟨_, List.getElem?_eq_getElem (by omega)⟩
    obtain ⟨dk, hdk, avk⟩ := rh.get hvk
    rw [List.getElem?_map, hk] at hdk
    obtain rfl : houseDa h = dk := Option.some.inj hdk
    have hm := List.mem_of_getElem? hk
    have gd := gh.all h hm
    have lr : h.runs.length ≤ 24 := runs_few gh hm
    subst hUz
    show tSeq (tAsg _ _) _ _ [some (.ref p), some (.ref a), some (.ref ch), some vl, some (.int pk), some (.int mo), some (.int (k : Int)), none, none, none, none, none, none, none, none, none, none, none, none] H3
    refine asg_h fun Uz hUz => ?_
    refine ixTup (SqT.of (k3.tup _ _ ech)) (v := vk) (atI_nat hvk) ?_
    refine hideP fun Rz0 hRz0 => ?_
    obtain ⟨ck, uk, ez41, eck, _, rk⟩ := avk.tupE
    subst hRz0
    subst ez41
    refine hideP fun Rz0 hRz0 => ?_
    obtain ⟨w1, w2, w3, w4, w5, ez42, hN, q2, q3, q4, hR0⟩ := rk.five
    subst hRz0
    subst ez42
    cases q2
    cases q3
    cases q4
    have hR : DaAt H w5 (.tup (h.runs.map runDa)) := hR0
    refine ⟨ck, _, rfl, SqT.of (k3.tup _ _ eck), rfl, _, _, rfl, _, _, rfl, _, _, rfl, _, _, rfl, _, _, rfl, rfl, ?_⟩
    subst hUz
    show tSeq (tIfS _ _ _) _ _ [some (.ref p), some (.ref a), some (.ref ch), some vl, some (.int pk), some (.int mo), some (.int (k : Int)), some w1, some (.int h.low), some (.int h.high), some (.int h.drift), some w5, none, none, none, none, none, none, none] H3
    refine if_join (fun σ' H' => σ' = [some (.ref p), some (.ref a), some (.ref ch), some vl, some (.int pk), some (.int mo), some (.int (k : Int)), some w1, some (.int h.low), some (.int h.high), some (.int h.drift), some w5, none, none, none, none, none, none, none] ∧ PackAt H' p ∧ Kp H H' ∧ SameB p H H') (fun U hU => ?_) (fun σ' H4 hz21 => ?_)
    · refine ite2 (fun c1 => ?_) (fun c1 => ?_)
      · refine ⟨Nat.zero_le _, fun e0 he0 => ?_⟩
        refine hideP fun Rz0 hRz0 => ?_
        obtain ⟨cl, wl, ez43, ecl, _, rl⟩ := hL.tupE
        subst hRz0
        subst ez43
        have lwl := rl.len
        rw [List.length_map] at lwl
        have s4 : Same H3 (upd H3 e0 (.tup [])) := (Same.refl _).upd he0
        have hp4 : PackAt (upd H3 e0 (.tup [])) p := hp3.new he0
        refine ⟨⟨cl, e0, wl, rfl, rfl, s4 _ _ (k3.tup _ _ ecl), upd_same, ?_⟩⟩
        generalize upd H3 e0 (.tup []) = H4 at s4 hp4
        have k4 : Kp H H4 := k3.trans (Kp.of s4)
        have SB4 : SameB p H H4 := SB3.trans (SameB.of s4)
        refine ite2 (fun c2 => ?_) (fun c2 => ?_)
        · have nl : 0 < wl.length := by
            cases wl with
            | nil => exact absurd c2 (by decide)
            | cons _ _ => exact Nat.succ_pos _
          refine asg_s ⟨cl, wl, rfl, .inr (SqT.of (k4.tup _ _ ecl)), ?_⟩
          refine ⟨p, (wl.length : Int), rfl, hp4, by omega, by omega, fun jj H5 jj0 jj1 hp5 sb5 => ?_⟩
          obtain ⟨j, rfl⟩ := Int.eq_ofNat_of_zero_le jj0
          have k5 := k4.trans (kp_take hp4 hp5 sb5)
          have SB5 : SameB p H H5 := SB4.trans sb5
          have lj : j < ls.length := by omega
          obtain ⟨l, hj⟩ : ∃ l, ls[j]? = some l := ⟨_, List.getElem?_eq_getElem lj⟩
          obtain ⟨vj, hvj⟩ : ∃ v, wl[j]? = some v := ⟨_, List.getElem?_eq_getElem (by omega)⟩
          obtain ⟨dj, hdj, avj⟩ := rl.get hvj
          rw [List.getElem?_map, hj] at hdj
          obtain rfl : letterDa l = dj := Option.some.inj hdj
          have gj := gl.all l (List.mem_of_getElem? hj)
          refine asg_s (ixTup (SqT.of (k5.tup _ _ ecl)) (v := vj) (atI_nat hvj) ?_)
          refine hideP fun Rz0 hRz0 => ?_
          obtain ⟨cj, uj, ez44, ecj, _, rj⟩ := avj.tupE
          subst hRz0
          subst ez44
          refine hideP fun Rz0 hRz0 => ?_
          obtain ⟨y1, y2, y3, y4, ez45, h1, h2, q3, h4⟩ := rj.four
          subst hRz0
          subst ez45
          cases q3
          refine ⟨cj, _, rfl, SqT.of (k5.tup _ _ ecj), rfl, _, _, rfl, _, _, rfl, _, _, rfl, _, _, rfl, rfl, ?_⟩
          refine asg_h fun Uz hUz => ?_
          refine ⟨1, l.2.1 + mo, rfl, ?_⟩
          obtain ⟨le, ele, ge⟩ : ∃ le : Int, le = (if l.2.1 + mo > 1 then l.2.1 + mo else 1) ∧ 1 ≤ le := ⟨_, rfl, by split <;> omega⟩
          rw [← ele]
          have fin : ∀ (vm : V) (mm : Option Int) (H6 : Hp), Same H5 H6 → DaAt H6 vm (mostDa mm) → (∀ m, mm = some m → le ≤ m) → tRet (tTup (tCons (tV 2) (tCons (tOp CatA (tOp CatA (tSl SlA (tV 3) tNoPart (tPartF (tV 12))) (tTup (tCons (tTup (tCons (tV 13) (tCons (tV 14) (tCons (tV 15) (tCons (tV 16) tNil))))) tNil))) (tSl SlA (tV 3) (tPartF (tOp (fI fun i j => .int (i + j)) (tV 12) (tC (.int 1)))) tNoPart)) tNil))) ⟨fun _ _ => False, Q, fun _ _ => False, fun _ _ => False⟩ [some (.ref p), some (.ref a), some (.ref ch), some (.ref cl), some (.int pk), some (.int mo), some (.int (k : Int)), some w1, some (.int h.low), some (.int h.high), some (.int h.drift), some w5, some (.int (j : Int)), some y1, some y2, some (.int le), some vm, none, none] H6 := fun vm mm H6 s6 hmo hge => by
            refine TD.use (σ := [some (.ref p), some (.ref a), some (.ref ch), some (.ref cl), some (.int pk), some (.int mo), some (.int (k : Int)), some w1, some (.int h.low), some (.int h.high), some (.int h.drift), some w5, some (.int (j : Int)), some y1, some y2, some (.int le), some vm, none, none]) (te := tTup _) (td_tup (tds_cons (td_v2 (hH.kp (k5.trans (Kp.of s6)))) (tds_cons (td_cat (td_cat (td_to (k := j) (td_v3 (hL.kp (k5.trans (Kp.of s6)))) (tpo_i (td_v12 (.int _)))) (td_tup (tds_cons (td_tup (tds_cons (td_v13 (h1.kp (k5.trans (Kp.of s6)))) (tds_cons (td_v14 (h2.kp (k5.trans (Kp.of s6)))) (tds_cons (td_v15 (.int _)) (tds_cons (td_v16 hmo) tds_nil)))) (by exact Nat.le_of_ble_eq_true rfl)) tds_nil) (by exact Nat.le_of_ble_eq_true rfl)) (by simp only [List.length_append, List.length_map, List.length_take, List.length_drop, List.length_cons, List.length_nil]; omega)) (td_from (k := (j + 1)) (td_v3 (hL.kp (k5.trans (Kp.of s6)))) (tpo_i (td_add1 (td_v12 (.int _))))) (by simp only [List.length_append, List.length_map, List.length_take, List.length_drop, List.length_cons, List.length_nil]; omega)) tds_nil)) (by exact Nat.le_of_ble_eq_true rfl)) (Same.refl _) fun v H7 s7 hv => ?_
            refine q v hs (putH ls j ((l.1.1, l.1.2), le, mm)) H7 ?_ gh (letter_put gl hj rfl ge hge) rfl (SB5.trans (SameB.of (s6.trans s7)))
            have e : lettersDa (putH ls j ((l.1.1, l.1.2), le, mm)) = .tup ((ls.map letterDa).take j ++ [.tup [.str l.1.1, .str l.1.2, .int le, mostDa mm]] ++ (ls.map letterDa).drop (j + 1)) := by
              unfold lettersDa putH
              rw [List.map_append, List.map_append, List.map_take, List.map_drop]
              rfl
            rw [e]
            exact hv
          subst hUz
          show tSeq (tIfS _ _ _) _ _ [some (.ref p), some (.ref a), some (.ref ch), some (.ref cl), some (.int pk), some (.int mo), some (.int (k : Int)), some w1, some (.int h.low), some (.int h.high), some (.int h.drift), some w5, some (.int (j : Int)), some y1, some y2, some (.int le), some y4, none, none] H5
          refine if_join (fun σ' H' => ∃ (vm : V) (mm : Option Int), σ' = [some (.ref p), some (.ref a), some (.ref ch), some (.ref cl), some (.int pk), some (.int mo), some (.int (k : Int)), some w1, some (.int h.low), some (.int h.high), some (.int h.drift), some w5, some (.int (j : Int)), some y1, some y2, some (.int le), some vm, none, none] ∧ H' = H5 ∧ DaAt H5 vm (mostDa mm) ∧ ∀ m, mm = some m → le ≤ m) (fun U hU => ?_) (fun σ' H' hz22 => ?_)
          · have ev := most_off h4
            subst ev
            cases em : l.2.2 with
            | none =>
              refine ⟨_, rfl, ?_⟩
              refine hU _ _ ⟨.non, none, rfl, rfl, .non, fun m z => by cases z⟩
            | some mv =>
              refine ⟨_, rfl, ?_⟩
              refine ⟨mo, rfl, ?_⟩
              refine ⟨.inl ⟨by split <;> omega, by split <;> omega⟩, ?_⟩
              refine ⟨_, _, rfl, ?_⟩
              refine hU _ _ ⟨.int _, some _, rfl, rfl, .int _, fun m z => ?_⟩
              cases z
              split <;> omega
          · refine hideP fun Rz0 hRz0 => ?_
            obtain ⟨vm, mm, eσ, eH, hvm, hge⟩ := hz22
            subst hRz0
            subst eσ eH
            exact fin vm mm _ (Same.refl _) hvm hge
        · exact hU _ _ ⟨rfl, hp4, k4, SB4⟩
      · exact hU _ _ ⟨rfl, hp3, k3, SB3⟩
    refine hideP fun Rz0 hRz0 => ?_
    obtain ⟨eσ, hp4, k4, SB4⟩ := hz21
    subst hRz0
    subst eσ
    show tSeq (tIfS _ _ _) _ _ [some (.ref p), some (.ref a), some (.ref ch), some vl, some (.int pk), some (.int mo), some (.int (k : Int)), some w1, some (.int h.low), some (.int h.high), some (.int h.drift), some w5, none, none, none, none, none, none, none] H4
    refine if_join (fun σ' H' => ∃ lo : Int, σ' = [some (.ref p), some (.ref a), some (.ref ch), some vl, some (.int pk), some (.int mo), some (.int (k : Int)), some w1, some (.int lo), some (.int h.high), some (.int h.drift), some w5, none, none, none, none, none, none, none] ∧ lo ≤ h.high ∧ H' = H4) (fun U hU => ?_) (fun σ' H' hz23 => ?_)
    · refine ite2 (fun c => ?_) (fun c => ?_)
      · refine ⟨h.high, h.low + mo, rfl, ?_⟩
        exact hU _ _ ⟨_, rfl, by split <;> omega, rfl⟩
      · exact hU _ _ ⟨_, rfl, gd.wide, rfl⟩
    refine hideP fun Rz0 hRz0 => ?_
    obtain ⟨lo, eσ, hlo, eH⟩ := hz23
    subst hRz0
    subst eσ eH
    refine if_join (fun σ' H'' => ∃ hi : Int, σ' = [some (.ref p), some (.ref a), some (.ref ch), some vl, some (.int pk), some (.int mo), some (.int (k : Int)), some w1, some (.int lo), some (.int hi), some (.int h.drift), some w5, none, none, none, none, none, none, none] ∧ lo ≤ hi ∧ H'' = H') (fun U hU => ?_) (fun σ' H'' hz24 => ?_)
    · refine ite2 (fun c => ?_) (fun c => ?_)
      · refine ⟨lo, h.high + mo, rfl, ?_⟩
        exact hU _ _ ⟨_, rfl, by split <;> omega, rfl⟩
      · exact hU _ _ ⟨_, rfl, hlo, rfl⟩
    refine hideP fun Rz0 hRz0 => ?_
    obtain ⟨hi, eσ, hhi, eH⟩ := hz24
    subst hRz0
    subst eσ eH
    have gdr := gd.drift
    refine if_join (fun σ' H3 => ∃ dr : Int, σ' = [some (.ref p), some (.ref a), some (.ref ch), some vl, some (.int pk), some (.int mo), some (.int (k : Int)), some w1, some (.int lo), some (.int hi), some (.int dr), some w5, none, none, none, none, none, none, none] ∧ 0 ≤ dr ∧ H3 = H'') (fun U hU => ?_) (fun σ' H5 hz25 => ?_)
    · refine ite2 (fun c => ?_) (fun c => ?_)
      · refine ⟨0, h.drift + mo, rfl, ?_⟩
        exact hU _ _ ⟨_, rfl, by split <;> omega, rfl⟩
      · exact hU _ _ ⟨_, rfl, gdr, rfl⟩
    refine hideP fun Rz0 hRz0 => ?_
    obtain ⟨dr, eσ, hdr, eH⟩ := hz25
    subst hRz0
    subst eσ eH
    refine if_join (fun σ' H' => ∃ (vr : V) (rs : List (List Row)) (o12 o17 : Option V), σ' = [some (.ref p), some (.ref a), some (.ref ch), some vl, some (.int pk), some (.int mo), some (.int (k : Int)), some w1, some (.int lo), some (.int hi), some (.int dr), some vr, o12, none, none, none, none, o17, none] ∧ DaAt H' vr (.tup (rs.map runDa)) ∧ (∀ r ∈ rs, GoodRun r) ∧ rs.flatten.map Prod.fst = h.runs.flatten.map Prod.fst ∧ rs.length = h.runs.length ∧ Kp H H' ∧ SameB p H H') (fun U hU => ?_) (fun σ' H6 hz26 => ?_)
    · refine ite2 (fun c1 => ?_) (fun c1 => ?_)
      · refine ⟨Nat.zero_le _, fun e0 he0 => ?_⟩
        refine hideP fun Rz0 hRz0 => ?_
        obtain ⟨cr, wr, ez46, ecr, _, rr⟩ := hR.tupE
        subst hRz0
        subst ez46
        have lwr := rr.len
        rw [List.length_map] at lwr
        have s6 : Same H5 (upd H5 e0 (.tup [])) := (Same.refl _).upd he0
        have hp6 : PackAt (upd H5 e0 (.tup [])) p := hp4.new he0
        refine ⟨⟨cr, e0, wr, rfl, rfl, s6 _ _ (k4.tup _ _ ecr), upd_same, ?_⟩⟩
        generalize upd H5 e0 (.tup []) = H6 at s6 hp6
        have k6 : Kp H H6 := k4.trans (Kp.of s6)
        have SB6 : SameB p H H6 := SB4.trans (SameB.of s6)
        refine ite2 (fun c2 => ?_) (fun c2 => ?_)
        · have nl : 0 < wr.length := by
            cases wr with
            | nil => exact absurd c2 (by decide)
            | cons _ _ => exact Nat.succ_pos _
          refine asg_s ⟨cr, wr, rfl, .inr (SqT.of (k6.tup _ _ ecr)), ?_⟩
          refine ⟨p, (wr.length : Int), rfl, hp6, by omega, by omega, fun jj H7 jj0 jj1 hp7 sb7 => ?_⟩
          obtain ⟨j, rfl⟩ := Int.eq_ofNat_of_zero_le jj0
          have k7 := k6.trans (kp_take hp6 hp7 sb7)
          have SB7 : SameB p H H7 := SB6.trans sb7
          have lj : j < h.runs.length := by omega
          obtain ⟨r, hj⟩ : ∃ r, h.runs[j]? = some r := ⟨_, List.getElem?_eq_getElem lj⟩
          obtain ⟨vj, hvj⟩ : ∃ v, wr[j]? = some v := ⟨_, List.getElem?_eq_getElem (by omega)⟩
          obtain ⟨dj, hdj, avj⟩ := rr.get hvj
          rw [List.getElem?_map, hj] at hdj
          obtain rfl : runDa r = dj := Option.some.inj hdj
          have gr := gd.runs r (List.mem_of_getElem? hj)
          refine hideP fun Rz0 hRz0 => ?_
          obtain ⟨cj, uj, ez47, ecj, lcj, rj⟩ := avj.tupE
          subst hRz0
          subst ez47
          have lr25 := gr.few
          refine asg_s (ixTup (SqT.of (k7.tup _ _ ecr)) (v := .ref cj) (atI_nat hvj) ?_)
          refine ⟨cj, rfl, ⟨_, SqT.of (k7.tup _ _ ecj)⟩, fun D hD => comp_tupD (f := fun d => rowDa ((rowOf d).1, (rowOf d).2 + mo)) hD (k7.tup _ _ ecj) (rj.kp k7) (by rw [List.length_map]; omega) (fun x d H' hd hx s b R hR' => ?_) (fun vs8 H8 s8 e8 hv8 => ?_)⟩
          · obtain ⟨rw, hrw, rfl⟩ := List.mem_map.mp hd
            refine hideP fun Rz0 hRz0 => ?_
            obtain ⟨ax, ux, ez48, eax, _, rx⟩ := hx.tupE
            subst hRz0
            subst ez48
            refine hideP fun Rz0 hRz0 => ?_
            obtain ⟨x1, x2, ez49, z1, z2⟩ := rx.two
            subst hRz0
            subst ez49
            refine ⟨ax, _, rfl, SqT.of eax, rfl, _, _, rfl, _, _, rfl, rfl, ?_⟩
            exact TD.use (σ := [some x1, some x2, some (.int mo)]) (d := .tup [.str rw.1, .int (rw.2 + mo)]) (td_tup (tds_cons (td_v0 z1) (tds_cons (td_add (td_v1 z2) (td_v2 (.int _))) tds_nil)) (by exact Nat.le_of_ble_eq_true rfl)) (Same.refl _) hR'
          · refine ⟨D, vs8, rfl, .inl ⟨SqL.of e8, fun t9 ft9 => ?_⟩⟩
            have s9 : Same H8 (upd H8 t9 (.tup vs8)) := (Same.refl _).upd ft9
            have hM : DaAt (upd H8 t9 (.tup vs8)) (.ref t9) (runDa (r.map fun r => (r.1, r.2 + mo))) := by
              refine .tup upd_same (by rw [hv8.len, List.length_map, List.length_map]; omega) ?_
              rw [List.map_map] at hv8 ⊢
              exact hv8.same s9
            generalize upd H8 t9 (.tup vs8) = H9 at s9 hM
            have s79 : Same H7 H9 := s8.trans s9
            have k9 : Kp H H9 := k7.trans (Kp.of s79)
            refine TD.use (σ := [some (.ref p), some (.ref a), some (.ref ch), some vl, some (.int pk), some (.int mo), some (.int (k : Int)), some w1, some (.int lo), some (.int hi), some (.int dr), some (.ref cr), some (.int (j : Int)), none, none, none, none, some (.ref t9), none]) (te := tOp CatA _ _) (td_cat (td_cat (td_to (k := j) (td_v11 (hR.kp k9)) (tpo_i (td_v12 (.int _)))) (td_tup (tds_cons (td_v17 hM) tds_nil) (by exact Nat.le_of_ble_eq_true rfl)) (by simp only [List.length_append, List.length_map, List.length_take, List.length_drop, List.length_cons, List.length_nil]; omega)) (td_from (k := (j + 1)) (td_v11 (hR.kp k9)) (tpo_i (td_add1 (td_v12 (.int _))))) (by simp only [List.length_append, List.length_map, List.length_take, List.length_drop, List.length_cons, List.length_nil]; omega)) (Same.refl _) fun v H10 s10 hv => ?_
            refine hU _ _ ⟨v, putH h.runs j (r.map fun r => (r.1, r.2 + mo)), _, _, rfl, ?_, fun z hz => ?_, ?_, putH_len hj, k9.trans (Kp.of s10), SB7.trans (SameB.of (s79.trans s10))⟩
            · have e : (putH h.runs j (r.map fun r => (r.1, r.2 + mo))).map runDa = (h.runs.map runDa).take j ++ [runDa (r.map fun r => (r.1, r.2 + mo))] ++ (h.runs.map runDa).drop (j + 1) := by
                unfold putH
                rw [List.map_append, List.map_append, List.map_take, List.map_drop]
                rfl
              rw [e]
              exact hv
            · rcases putH_mem hz with w | w
              · exact gd.runs z w
              · rw [w]; exact run_moved gr mo
            · exact runs_moved hj (by rw [List.map_map]; rfl)
        · exact hU _ _ ⟨_, h.runs, _, _, rfl, hR.kp k6, gd.runs, rfl, rfl, k6, SB6⟩
      · exact hU _ _ ⟨_, h.runs, _, _, rfl, hR.kp k4, gd.runs, rfl, rfl, k4, SB4⟩
    refine hideP fun Rz0 hRz0 => ?_
    obtain ⟨vr, rs, o12, o17, eσ, hvr, grs, ers, lrs, k6, SB6⟩ := hz26
    subst hRz0
    subst eσ
    refine asg_s (TD.use (σ := [some (.ref p), some (.ref a), some (.ref ch), some vl, some (.int pk), some (.int mo), some (.int (k : Int)), some w1, some (.int lo), some (.int hi), some (.int dr), some vr, o12, none, none, none, none, o17, none]) (te := tTup _) (td_tup (tds_cons (td_v7 (hN.kp k6)) (tds_cons (td_v8 (.int _)) (tds_cons (td_v9 (.int _)) (tds_cons (td_v10 (.int _)) (tds_cons (td_v11 hvr) tds_nil))))) (by exact Nat.le_of_ble_eq_true rfl)) (Same.refl _) fun v H7 s7 hv => ?_)
    have k7 := k6.trans (Kp.of s7)
    refine TD.use (σ := [some (.ref p), some (.ref a), some (.ref ch), some vl, some (.int pk), some (.int mo), some (.int (k : Int)), some w1, some (.int lo), some (.int hi), some (.int dr), some vr, o12, none, none, none, none, o17, some v]) (te := tTup _) (td_tup (tds_cons (td_cat (td_cat (td_to (k := k) (td_v2 (hH.kp k7)) (tpo_i (td_v6 (.int _)))) (td_tup (tds_cons (td_v18 hv) tds_nil) (by exact Nat.le_of_ble_eq_true rfl)) (by simp only [List.length_append, List.length_map, List.length_take, List.length_drop, List.length_cons, List.length_nil]; omega)) (td_from (k := (k + 1)) (td_v2 (hH.kp k7)) (tpo_i (td_add1 (td_v6 (.int _))))) (by simp only [List.length_append, List.length_map, List.length_take, List.length_drop, List.length_cons, List.length_nil]; omega)) (tds_cons (td_v3 (hL.kp k7)) tds_nil)) (by exact Nat.le_of_ble_eq_true rfl)) (Same.refl _) fun y H8 s8 hy => ?_
    have gd' : GoodHouse ⟨h.name, lo, hi, dr, rs⟩ := ⟨gd.name, hhi, hdr, by show rs.length ≤ 25; omega, grs⟩
    have enm : namesH ⟨h.name, lo, hi, dr, rs⟩ = namesH h := ers
    obtain ⟨gp, en⟩ := good_put gh hk (h' := ⟨h.name, lo, hi, dr, rs⟩) rfl enm gd'
    refine q y (putH hs k ⟨h.name, lo, hi, dr, rs⟩) ls H8 ?_ gp (letters_put gl hk rfl enm) en (SB6.trans (SameB.of (s7.trans s8)))
    have e : housesDa (putH hs k ⟨h.name, lo, hi, dr, rs⟩) = .tup ((hs.map houseDa).take k ++ [.tup [.str h.name, .int lo, .int hi, .int dr, .tup (rs.map runDa)]] ++ (hs.map houseDa).drop (k + 1)) := by
      unfold housesDa putH
      rw [List.map_append, List.map_append, List.map_take, List.map_drop]
      rfl
    rw [e]
    exact hy
end
end K02
namespace K02
open PySem L2
theorem g64 : ledgerD (.tup [.tup (wideL 6 4), .tup []]) = true := by decide +kernel
theorem g212 : ledgerD (.tup [.tup (wideL 2 12), .tup (lettersL 24)]) = true := by decide +kernel
theorem g124 : ledgerD (.tup [.tup (wideL 1 24), .tup []]) = true := by decide +kernel
theorem ga : ledgerD (.tup [.tup [.tup [.str "a", .int 0, .int 0, .int 0, .tup []]], .tup []]) = true := by decide +kernel
section
variable {g : BI → TG} {te : BI → TE} {σ0 : St} {D : Addr} {End : Hp → Prop} {H1 : Hp}
theorem comp_trueL {K : PySem.W.Frag} {a : Addr} {xs : List V} {ds : List Da} (hD : H1 D = none) (ha : H1 a = some (.lst xs)) (hx : DaAs H1 xs ds) (few : ds.length ≤ 5000)
    (turn : ∀ (x : V) (d : Da) (H' : Hp), d ∈ ds → DaAt H' x d → Same H1 H' → ∀ b (R : VK), (∀ H'', Same H' H'' → R (.bl true) H'') → g b x σ0 H' fun σ2 H2 => te b σ2 H2 R)
    (fin : ∀ H', Same H1 H' → H' D = some (.lst ((List.replicate xs.length true).map V.bl)) → End H') :
    ∃ W : Nat → Nat → Hp → Prop, (∃ m, W 0 m (upd H1 D (.lst []))) ∧ ∀ b, CTurn (Itl K a) (g b) (tYes) (aPut D (te b)) σ0 End W :=
  comp_list (xs := xs) (fun i H' => Grow H1 H' D ((List.replicate i true).map V.bl)) (Grow.start hD) (fun i H' _ G => SqL.of (G.same _ _ ha)) (fun H' G => fin H' G.same G.at') (fun i x H' hi hlt G b => by
    obtain ⟨d, hd, hxd⟩ := hx.get hi
    refine turn x d H' (List.mem_of_getElem? hd) (hxd.same G.same) G.same b _ fun H'' s => ⟨_, (G.more s).at', by have sl0 : sizeLine = 16777216 := sizeLine_eq; have := hx.len; rw [List.length_map, List.length_replicate]; omega, nx hlt ?_⟩
    show Grow H1 _ D ((List.replicate (i + 1) true).map V.bl)
    rw [List.replicate_succ', List.map_append]
    exact (G.more s).put hD _)
end
theorem for_range3 {lo c : Int} {n : Nat} {g : TG} {tb : TS} {D : Ends} {σ : St} {H : Hp} (Pv : Nat → St → Hp → Prop) (h0 : Pv 0 σ H)
    (hs : ∀ i σ H, i < n → Pv i σ H → g (.int (lo + i * c)) σ H fun σ2 H2 => tb { D with nx := Pv (i + 1), ct := Pv (i + 1), bk := D.nx } σ2 H2) (hd : ∀ σ H, Pv n σ H → D.nx σ H) :
    ∃ W : Nat → Nat → St → Hp → Prop, (∃ m, W 0 m σ H) ∧ ∀ i m σ H, W i m σ H →
      ((Itr3 lo c n).stop i H ∧ D.nx σ H) ∨ ((Itr3 lo c n).go i H ∧ ∃ N : St → Hp → Prop, (∀ σ' H', N σ' H' → ∃ m', m' < m ∧ W (i + 1) m' σ' H') ∧ ∀ x H', (Itr3 lo c n).yld i H x H' → g x σ H' fun σ2 H2 => tb { D with nx := N, ct := N, bk := D.nx } σ2 H2) := by
  refine ⟨fun i m σ H => m = n - i ∧ i ≤ n ∧ Pv i σ H, ⟨n, rfl, Nat.zero_le _, h0⟩, fun i m σ H ⟨em, hi, p⟩ => ?_⟩
  subst em
  rcases Nat.lt_or_ge i n with lt | ge
  · refine .inr ⟨lt, Pv (i + 1), fun σ' H' p' => ⟨n - (i + 1), by omega, rfl, lt, p'⟩, fun x H' ⟨e, y⟩ => ?_⟩
    subst e y
    exact hs i σ _ lt p
  · have e : i = n := by omega
    subst e
    exact .inl ⟨Nat.le_refl _, hd σ H p⟩
theorem gnx {i : Nat} {v : V} {n b c : St → Hp → Prop} {r : VK} {σ : St} {H : Hp} (h : n (σ.set i (some v)) H) : gName i v σ H (Ends.nx ⟨n, r, b, c⟩) := h
theorem all_rep (n : Nat) : (List.replicate n true).all id = true := List.all_eq_true.mpr fun b hb => (List.mem_replicate.mp hb).2
noncomputable def spLaw (K : PySem.W.Frag) : Sp := fun vs H Q _ => ∃ (a : Addr) (ns : List Int), vs = [.ref a] ∧ SqL K H a (ns.map V.int) ∧ ns.length ≤ 63 ∧ (∀ n ∈ ns, Bits n) ∧ ∀ H', Q (.bl true) H'
section
variable {P : Program} {w : World} {K : PySem.W.Frag} {mg : Str → Option Value} {base : Heap} {t8 t6 tR tL : Tok}
theorem sc_law : FnScope ["_law_script", "_law_k", "_law_drawn", "_law_houses", "_law_letters_here", "_law_at", "_law_things", "_law_good"] ["_law_script"] (defScope sLaw) := ⟨rfl, rfl, rfl, by decide +kernel, rfl, by decide +kernel, by decide +kernel⟩
theorem ok_law {f f_mkledger f_bent f_pack f_is f_ledger f_take f_nohouses f_noletters f_allnone f_wide f_lettersof : Addr} {fd fd_mkledger fd_bent fd_pack fd_is fd_ledger fd_take fd_nohouses fd_noletters fd_allnone fd_wide fd_lettersof : FuncData} (F : Fun K "law" "law" sLaw f fd) (T : Txt mg t8 t6 tR tL)
    (G_mkledger : FnOk P w K mg base CX0 6 f_mkledger fd_mkledger ["_law_script", "_law_k"] (spMkLedger K)) (m_mkledger : mg "_law_ledger" = some (.ref f_mkledger)) (k_mkledger : PySem.W.keepIn K (.ref f_mkledger) = true) (b_mkledger : Binds K fd_mkledger ["_law_script", "_law_k"] [])
    (G_bent : FnOk P w K mg base CX0 6 f_bent fd_bent ["_law_pack_here", "_law_ledger_here"] spBent) (m_bent : mg "_law_bent" = some (.ref f_bent)) (k_bent : PySem.W.keepIn K (.ref f_bent) = true) (b_bent : Binds K fd_bent ["_law_pack_here", "_law_ledger_here"] [])
    (G_pack : FnOk P w K mg base CX0 6 f_pack fd_pack ["_law_script", "_law_k"] (spPack K)) (m_pack : mg "_law_pack" = some (.ref f_pack)) (k_pack : PySem.W.keepIn K (.ref f_pack) = true) (b_pack : Binds K fd_pack ["_law_script", "_law_k"] [])
    (G_is : FnOk P w K mg base CX0 6 f_is fd_is ["_law_found", "_law_due"] spIs) (m_is : mg "_law_is" = some (.ref f_is)) (k_is : PySem.W.keepIn K (.ref f_is) = true) (b_is : Binds K fd_is ["_law_found", "_law_due"] [])
    (G_ledger : FnOk P w K mg base CX0 6 f_ledger fd_ledger ["thing"] (spD ledgerD)) (m_ledger : mg "is_ledger" = some (.ref f_ledger)) (k_ledger : PySem.W.keepIn K (.ref f_ledger) = true) (b_ledger : Binds K fd_ledger ["thing"] [])
    (G_take : FnOk P w K mg base CX0 6 f_take fd_take ["_law_pack_here", "_law_size"] spTake) (m_take : mg "_law_take" = some (.ref f_take)) (k_take : PySem.W.keepIn K (.ref f_take) = true) (b_take : Binds K fd_take ["_law_pack_here", "_law_size"] [])
    (G_nohouses : FnOk P w K mg base CX0 6 f_nohouses fd_nohouses ["_law_house_here", "_law_at", "_law_houses"] spNoHouses) (m_nohouses : mg "_law_no_houses" = some (.ref f_nohouses)) (k_nohouses : PySem.W.keepIn K (.ref f_nohouses) = true) (b_nohouses : Binds K fd_nohouses ["_law_house_here", "_law_at", "_law_houses"] [])
    (G_noletters : FnOk P w K mg base CX0 6 f_noletters fd_noletters ["_law_houses", "_law_letters_here"] spNoLetters) (m_noletters : mg "_law_no_letters" = some (.ref f_noletters)) (k_noletters : PySem.W.keepIn K (.ref f_noletters) = true) (b_noletters : Binds K fd_noletters ["_law_houses", "_law_letters_here"] [])
    (G_allnone : FnOk P w K mg base CX0 6 f_allnone fd_allnone ["_law_houses", "_law_letters_here"] spAllNone) (m_allnone : mg "_law_all_none" = some (.ref f_allnone)) (k_allnone : PySem.W.keepIn K (.ref f_allnone) = true) (b_allnone : Binds K fd_allnone ["_law_houses", "_law_letters_here"] [])
    (G_wide : FnOk P w K mg base CX0 6 f_wide fd_wide ["_law_houses", "_law_rows_here"] spWide) (m_wide : mg "_law_wide" = some (.ref f_wide)) (k_wide : PySem.W.keepIn K (.ref f_wide) = true) (b_wide : Binds K fd_wide ["_law_houses", "_law_rows_here"] [])
    (G_lettersof : FnOk P w K mg base CX0 6 f_lettersof fd_lettersof ["_law_amount"] spLettersOf) (m_lettersof : mg "_law_letters_of" = some (.ref f_lettersof)) (k_lettersof : PySem.W.keepIn K (.ref f_lettersof) = true) (b_lettersof : Binds K fd_lettersof ["_law_amount"] []) : FnOk P w K mg base CX0 7 f fd ["_law_script"] (spLaw K) := by
  refine F.ok sc_law (fun vs H Q E h => ?_) (fun cdv A outer s H vs Q E hr h => ?_)
  · obtain ⟨a, ns, rfl, _⟩ := h
    rfl
  · obtain ⟨a, ns, rfl, ha, hl, hb, q⟩ := h
    have sl0 : sizeLine = 16777216 := sizeLine_eq
    refine ⟨_, (SSs.h (qss_cons (qs_for PassesOwn.never rfl (qi_range3 rfl T.range (qa_cons qe_int (qa_cons (qe_callB ⟨(call_max2 rfl)⟩ rfl T.max PyProof.Rows.boot_max (qa_cons qe_int (qa_cons (qe_callB ⟨(call_min2 rfl)⟩ rfl T.min PyProof.Rows.boot_min (qa_cons (qe_callB ⟨call_len_seq⟩ rfl T.len PySem.boot_len (qa_cons (qV 0) qa_nil)) (qa_cons qe_int qa_nil))) qa_nil))) (qa_cons qe_int qa_nil)))) (qg_name (i := 1) sc_law.nd rfl (Or.inl rfl)) (qss_cons (qs_set (i := 2) sc_law.nd rfl (Or.inl rfl) (qe_call G_mkledger hr rfl m_mkledger k_mkledger b_mkledger .nil pass0 (qa_cons (qV 0) (qa_cons (qV 1) qa_nil)))) (qss_cons (qs_asg (qe_call G_bent hr rfl m_bent k_bent b_bent .nil pass0 (qa_cons (qe_call G_pack hr rfl m_pack k_pack b_pack .nil pass0 (qa_cons (qV 0) (qa_cons (qe_op ⟨oAdd⟩ (qV 1) qe_int) qa_nil))) (qa_cons (qV 2) qa_nil))) (qg_tup rfl (qgs_cons (qg_name (i := 3) sc_law.nd rfl (Or.inr rfl)) (qgs_cons (qg_name (i := 4) sc_law.nd rfl (Or.inl rfl)) qgs_nil)))) (qss_cons (qs_if (qtOr (qt_not (qtV (qe_call G_is hr rfl m_is k_is b_is .nil pass0 (qa_cons (qe_call G_ledger hr rfl m_ledger k_ledger b_ledger .nil pass0 (qa_cons (qV 2) qa_nil)) (qa_cons qe_bl qa_nil))))) (qw_or1 (qt_not (qtV (qe_call G_is hr rfl m_is k_is b_is .nil pass0 (qa_cons (qe_call G_ledger hr rfl m_ledger k_ledger b_ledger .nil pass0 (qa_cons (qe_tup (qa_cons (qV 3) (qa_cons (qV 4) qa_nil))) qa_nil)) (qa_cons qe_bl qa_nil))))))) (qss_one (qs_ret qe_bl)) qss_nil) (qss_cons (qs_set (i := 5) sc_law.nd rfl (Or.inl rfl) (qe_call G_take hr rfl m_take k_take b_take .nil pass0 (qa_cons (qe_call G_pack hr rfl m_pack k_pack b_pack .nil pass0 (qa_cons (qV 0) (qa_cons (qe_op ⟨oAdd⟩ (qV 1) qe_int) qa_nil))) (qa_cons (qe_callB ⟨call_len_seq⟩ rfl T.len PySem.boot_len (qa_cons (qV 3) qa_nil)) qa_nil)))) (qss_cons (qs_setComp (i := 6) sc_law.nd rfl rfl (scX := defScope sLaw) (own := ["_law_some"]) (cap := []) (ix := []) rfl rfl ⟨rfl, by decide +kernel, by decide +kernel, by decide +kernel, rfl, by decide +kernel⟩ (qi_list (qe_call G_nohouses hr rfl m_nohouses k_nohouses b_nohouses .nil pass0 (qa_cons (qe_ix ⟨iIxT⟩ (qV 3) (qV 5) (fun _ _ => rfl)) (qa_cons (qV 5) (qa_cons (qV 3) qa_nil))))) (fun b => (qg_name (i := 0) (show (["_law_some"] : List Str).Nodup by decide +kernel) rfl (Or.inl rfl))) (fun b => qif_nil) (fun b => (qe_tup (qa_cons (qV 0) (qa_cons (qe_tup qa_nil) qa_nil))))) (qss_cons (qs_set (i := 6) sc_law.nd rfl (Or.inl rfl) (qe_op ⟨op_cat⟩ (qV 6) (qe_comp (scX := defScope sLaw) (own := ["_law_some"]) (cap := ["_law_houses"]) (ix := [3]) rfl rfl ⟨rfl, by decide +kernel, by decide +kernel, by decide +kernel, rfl, by decide +kernel⟩ (qi_list (qe_call G_noletters hr rfl m_noletters k_noletters b_noletters .nil pass0 (qa_cons (qV 3) (qa_cons (qV 4) qa_nil)))) (fun b => (qg_name (i := 0) (show (["_law_some", "_law_houses"] : List Str).Nodup by decide +kernel) rfl (Or.inl rfl))) (fun b => qif_nil) (fun b => (qe_tup (qa_cons (qV 1) (qa_cons (qV 0) qa_nil))))))) (qss_cons (qs_set (i := 6) sc_law.nd rfl (Or.inl rfl) (qe_op ⟨op_cat⟩ (qV 6) (qe_call G_allnone hr rfl m_allnone k_allnone b_allnone .nil pass0 (qa_cons (qV 3) (qa_cons (qV 4) qa_nil))))) (qss_one (qs_if (qt_not (qtV (qe_callB ⟨(call_all rfl)⟩ rfl T.all PyProof.Rows.boot_all (qa_cons (qe_comp (scX := defScope sLaw) (own := ["_law_thing"]) (cap := []) (ix := []) rfl rfl ⟨rfl, by decide +kernel, by decide +kernel, by decide +kernel, rfl, by decide +kernel⟩ (qi_list (qV 6)) (fun b => (qg_name (i := 0) (show (["_law_thing"] : List Str).Nodup by decide +kernel) rfl (Or.inl rfl))) (fun b => qif_nil) (fun b => (qe_call G_is hr rfl m_is k_is b_is .nil pass0 (qa_cons (qe_call G_ledger hr rfl m_ledger k_ledger b_ledger .nil pass0 (qa_cons (qV 0) qa_nil)) (qa_cons qe_bl qa_nil))))) qa_nil)))) (qss_one (qs_ret qe_bl)) qss_nil)))))))))) (qss_cons (qs_set (i := 7) sc_law.nd rfl (Or.inl rfl) (qe_lst (qa_cons (qe_tup (qa_cons (qe_call G_wide hr rfl m_wide k_wide b_wide .nil pass0 (qa_cons qe_int (qa_cons qe_int qa_nil))) (qa_cons (qe_tup qa_nil) qa_nil))) (qa_cons (qe_tup (qa_cons (qe_call G_wide hr rfl m_wide k_wide b_wide .nil pass0 (qa_cons qe_int (qa_cons qe_int qa_nil))) (qa_cons (qe_call G_lettersof hr rfl m_lettersof k_lettersof b_lettersof .nil pass0 (qa_cons qe_int qa_nil)) qa_nil))) (qa_cons (qe_tup (qa_cons (qe_call G_wide hr rfl m_wide k_wide b_wide .nil pass0 (qa_cons qe_int (qa_cons qe_int qa_nil))) (qa_cons (qe_tup qa_nil) qa_nil))) qa_nil))))) (qss_cons (qs_expr (qe_bm PySem.F.plainAttrs_list PySem.F.slot_list_append PySem.F.type_list_append ⟨mt_append⟩ (qV 7) (qa_cons (qe_tup (qa_cons (qe_tup (qa_cons (qe_tup (qa_cons qe_str (qa_cons qe_int (qa_cons qe_int (qa_cons qe_int (qa_cons (qe_tup qa_nil) qa_nil)))))) qa_nil)) (qa_cons (qe_tup qa_nil) qa_nil))) qa_nil))) (qss_one (qs_ret (qe_callB ⟨(call_all rfl)⟩ rfl T.all PyProof.Rows.boot_all (qa_cons (qe_comp (scX := defScope sLaw) (own := ["_law_thing"]) (cap := []) (ix := []) rfl rfl ⟨rfl, by decide +kernel, by decide +kernel, by decide +kernel, rfl, by decide +kernel⟩ (qi_list (qV 7)) (fun b => (qg_name (i := 0) (show (["_law_thing"] : List Str).Nodup by decide +kernel) rfl (Or.inl rfl))) (fun b => qif_nil) (fun b => (qe_call G_is hr rfl m_is k_is b_is .nil pass0 (qa_cons (qe_call G_ledger hr rfl m_ledger k_ledger b_ledger .nil pass0 (qa_cons (qV 0) qa_nil)) (qa_cons qe_bl qa_nil))))) qa_nil)))))))), ?_⟩
    refine ⟨a, _, rfl, .inl ha, ?_⟩
    refine ⟨_, 32, rfl, ?_⟩
    refine ⟨1, _, rfl, ?_⟩
    obtain ⟨mx, emx, mx1, mx2⟩ : ∃ mx : Int, mx = (if (if (32 : Int) < ((ns.map V.int).length : Int) then 32 else ((ns.map V.int).length : Int)) > 1 then (if (32 : Int) < ((ns.map V.int).length : Int) then 32 else ((ns.map V.int).length : Int)) else 1) ∧ 1 ≤ mx ∧ mx ≤ 32 := ⟨_, rfl, by split <;> omega, by split <;> (try split) <;> omega⟩
    rw [← emx]
    have en : Builtin.Range.rangeSize 0 mx 8 ≤ 4 := by
      unfold Builtin.Range.rangeSize
      rw [if_pos (by decide), if_pos (by omega)]
      omega
    refine ⟨0, mx, 8, rfl, ⟨by decide, by decide, by omega, by omega, by decide, by decide⟩, for_range3 (fun i σ H' => ∃ o1 o2 o3 o4 o5 o6 o7 : Option V, σ = [some (.ref a), o1, o2, o3, o4, o5, o6, o7] ∧ Same H H') ⟨none, none, none, none, none, none, none, rfl, Same.refl H⟩ (fun i σ H' hi hz27 => ?_) (fun σ H' hz28 => ?_)⟩
    · refine hideP fun Rz0 hRz0 => ?_
      obtain ⟨o1, o2, o3, o4, o5, o6, o7, eσ, S⟩ := hz27
      subst hRz0
      subst eσ
      refine asg_h fun Uz hUz => ?_
      refine ⟨a, ns, 0 + (i : Int) * 8, rfl, sql_same S ha, hb, hl, by omega, by omega, fun x hs ls H1 lat gh gl nq s1 => ?_⟩
      have S1 : Same H H1 := S.trans s1
      subst hUz
      show tSeq (tAsg _ _) _ _ [some (.ref a), some (.int (0 + (i : Int) * 8)), some x, o3, o4, o5, o6, o7] H1
      refine asg_h fun Uz hUz => ?_
      refine ⟨a, ns, 0 + (i : Int) * 8 + 6, rfl, sql_same S1 ha, hb, hl, by omega, by omega, fun p H2 fp hp2 s2 => ?_⟩
      have hx : DaAt H1 x (.tup [housesDa hs, lettersDa ls]) := lat.da gh gl
      refine ⟨p, x, hs, ls, rfl, hp2, hx.same s2, gh, gl, fun y hs' ls' H3 hy gh' gl' enm sb3 => ?_⟩
      have s13 : Same H1 H3 := same_new s2 fp sb3
      have S3 : Same H H3 := S1.trans s13
      refine hideP fun Rz0 hRz0 => ?_
      obtain ⟨cy, uy, ez50, ecy, _, ry⟩ := hy.tupE
      subst hRz0
      subst ez50
      refine hideP fun Rz0 hRz0 => ?_
      obtain ⟨vh, vl, ez51, hH, hL⟩ := ry.two
      subst hRz0
      subst ez51
      refine ⟨cy, _, rfl, SqT.of ecy, rfl, _, _, rfl, _, _, rfl, rfl, ?_⟩
      subst hUz
      show tSeq (tIfS _ _ _) _ _ [some (.ref a), some (.int (0 + (i : Int) * 8)), some x, some vh, some vl, o5, o6, o7] H3
      refine ⟨x, _, rfl, hx.same s13, fun H4 s4 => ?_⟩
      rw [ledger_da gh gl]
      refine ⟨true, true, rfl, ?_⟩
      refine ⟨by show 2 ≤ sizeLine; omega, fun t5 ft5 => ?_⟩
      have s5 : Same H3 (upd H4 t5 (.tup [vh, vl])) := s4.upd ft5
      refine ⟨.ref t5, .tup [housesDa hs', lettersDa ls'], rfl, .tup upd_same (show 2 ≤ 25 by decide) (.cons (hH.same s5) (.cons (hL.same s5) .nil)), fun H6 s6 => ?_⟩
      rw [ledger_da gh' gl']
      refine ⟨true, true, rfl, ?_⟩
      have s36 : Same H3 H6 := s5.trans s6
      have S6 : Same H H6 := S3.trans s36
      refine hideP fun Rz0 hRz0 => ?_
      obtain ⟨ch, wh, ewh, ech, _, rh⟩ := hH.tupE
      subst hRz0
      subst ewh
      have lwh := rh.len
      rw [List.length_map] at lwh
      have lh1 := gh'.lo
      have lh6 := gh'.hi
      refine ⟨a, ns, 0 + (i : Int) * 8 + 7, rfl, sql_same S6 ha, hb, hl, by omega, by omega, fun p7 H7 fp7 hp7 s7 => ?_⟩
      refine ⟨ch, wh, rfl, .inr (SqT.of (s7 _ _ (s36 _ _ ech))), ?_⟩
      refine ⟨p7, (wh.length : Int), rfl, hp7, by omega, by omega, fun kk H8 kk0 kk1 hp8 sb8 => ?_⟩
      obtain ⟨k, rfl⟩ := Int.eq_ofNat_of_zero_le kk0
      have s68 : Same H6 H8 := same_new s7 fp7 sb8
      have s38 : Same H3 H8 := s36.trans s68
      have S8 : Same H H8 := S3.trans s38
      have lk : k < hs'.length := by omega
      obtain ⟨h, hk⟩ : ∃ h, hs'[k]? = some h := ⟨_, List.getElem?_eq_getElem lk⟩
      obtain ⟨vk, hvk⟩ : ∃ v, wh[k]? = some v := ⟨_, List.getElem?_eq_getElem (by omega)⟩
      obtain ⟨dk, hdk, avk⟩ := rh.get hvk
      rw [List.getElem?_map, hk] at hdk
      obtain rfl : houseDa h = dk := Option.some.inj hdk
      refine gnx ?_
      show tSeq (tAsg _ _) _ _ [some (.ref a), some (.int (0 + (i : Int) * 8)), some x, some (.ref ch), some vl, some (.int (k : Int)), o6, o7] H8
      refine asg_h fun Uz hUz => ?_
      refine ixTup (SqT.of (s38 _ _ ech)) (v := vk) (atI_nat hvk) ?_
      refine ⟨vk, .ref ch, hs', h, k, rfl, hk, avk.same s38, hH.same s38, gh', fun l9 us9 ds9 H9 el9 hu9 ln9 bad9 s9 => ?_⟩
      have s39 : Same H3 H9 := s38.trans s9
      refine ⟨l9, rfl, ⟨_, SqL.of el9⟩, fun D10 hD10 => comp_listD (f := fun d => .tup [d, .tup []]) hD10 el9 hu9 ln9 (fun x d H' hd hx s b R hR' => ?_) (fun vs10 H10 s10 e10 hv10 => ?_)⟩
      · exact TD.use (σ := [some x]) (d := .tup [d, .tup []]) (te := tTup _) (td_tup (tds_cons (td_v0 hx) (tds_cons (td_tup tds_nil (by exact Nat.le_of_ble_eq_true rfl)) tds_nil)) (by exact Nat.le_of_ble_eq_true rfl)) (Same.refl _) hR'
      have s310 : Same H3 H10 := s39.trans s10
      have S10 : Same H H10 := S3.trans s310
      obtain ⟨ds10, hv10, B10, l10⟩ : ∃ ds, DaAs H10 vs10 ds ∧ (∀ d ∈ ds, ledgerD d = false) ∧ ds.length ≤ 1000 := ⟨_, hv10, fa_map (q := fun d => housesD d = false) bad9 (fun d z => ledger_no1 z), by rw [List.length_map]; omega⟩
      subst hUz
      show tSeq (tAsg _ _) _ _ [some (.ref a), some (.int (0 + (i : Int) * 8)), some x, some (.ref ch), some vl, some (.int (k : Int)), some (.ref D10), o7] H10
      refine asg_h fun Uz hUz => ?_
      refine ⟨.ref ch, vl, hs', ls', rfl, HousesAt.off (hH.same s310), LettersAt.off (hL.same s310), gh', gl', (fun n hn => nq n (enm ▸ hn)), fun l11 us11 ds11 H11 el11 hu11 ln11 bad11 s11 => ?_⟩
      have s311 : Same H3 H11 := s310.trans s11
      refine ⟨l11, rfl, ⟨_, SqL.of el11⟩, fun D12 hD12 => comp_listD (f := fun d => .tup [housesDa hs', d]) hD12 el11 hu11 ln11 (fun x d H' hd hx s b R hR' => ?_) (fun vs12 H12 s12 e12 hv12 => ?_)⟩
      · exact TD.use (σ := [some x, some (.ref ch)]) (d := .tup [housesDa hs', d]) (te := tTup _) (td_tup (tds_cons (td_v1 (hH.same (s311.trans s))) (tds_cons (td_v0 hx) tds_nil)) (by exact Nat.le_of_ble_eq_true rfl)) (Same.refl _) hR'
      have e10' : H12 D10 = some (.lst vs10) := s12 _ _ (s11 _ _ e10)
      have lv10 := hv10.len
      have lv12 := hv12.len
      rw [List.length_map] at lv12
      refine ⟨D10, D12, vs10, vs12, rfl, rfl, e10', e12, by omega, fun D13 hD13 => ?_⟩
      have s1213 : Same H12 (upd H12 D13 (.lst (vs10 ++ vs12))) := (Same.refl _).upd hD13
      have hv13 : DaAs (upd H12 D13 (.lst (vs10 ++ vs12))) (vs10 ++ vs12) _ := ((hv10.same (s11.trans s12)).app hv12).same s1213
      have e13 : upd H12 D13 (.lst (vs10 ++ vs12)) D13 = some (.lst (vs10 ++ vs12)) := upd_same
      generalize upd H12 D13 (.lst (vs10 ++ vs12)) = H13 at s1213 hv13 e13
      obtain ⟨ds13, hv13, B13, l13⟩ : ∃ ds, DaAs H13 (vs10 ++ vs12) ds ∧ (∀ d ∈ ds, ledgerD d = false) ∧ ds.length ≤ 2000 := ⟨_, hv13, fa_app B10 (fa_map (q := fun d => lettersD hs' d = false) bad11 (fun d z => ledger_no2 (by show lettersD ((hs'.map houseDa).map houseOf) d = false; rw [housesOf_da]; exact z))), by rw [List.length_append, List.length_map]; omega⟩
      have s313 : Same H3 H13 := s311.trans (s12.trans s1213)
      have S13 : Same H H13 := S3.trans s313
      subst hUz
      show tSeq (tAsg _ _) _ _ [some (.ref a), some (.int (0 + (i : Int) * 8)), some x, some (.ref ch), some vl, some (.int (k : Int)), some (.ref D13), o7] H13
      refine asg_s ⟨.ref ch, vl, hs', ls', rfl, hH.same s313, hL.same s313, gh', gl', fun l14 us14 ds14 H14 el14 hu14 ln14 bad14 s14 => ?_⟩
      have lv13 := hv13.len
      have lv14 := hu14.len
      refine ⟨D13, l14, vs10 ++ vs12, us14, rfl, rfl, s14 _ _ e13, el14, by omega, fun D15 hD15 => ?_⟩
      have s1415 : Same H14 (upd H14 D15 (.lst (vs10 ++ vs12 ++ us14))) := (Same.refl _).upd hD15
      have hv15 : DaAs (upd H14 D15 (.lst (vs10 ++ vs12 ++ us14))) (vs10 ++ vs12 ++ us14) (ds13 ++ ds14) := ((hv13.same s14).app hu14).same s1415
      have e15 : upd H14 D15 (.lst (vs10 ++ vs12 ++ us14)) D15 = some (.lst (vs10 ++ vs12 ++ us14)) := upd_same
      generalize upd H14 D15 (.lst (vs10 ++ vs12 ++ us14)) = H15 at s1415 hv15 e15
      have B15 : ∀ d ∈ ds13 ++ ds14, ledgerD d = false := fa_app B13 bad14
      have S15 : Same H H15 := S13.trans (s14.trans s1415)
      refine ⟨D15, rfl, ⟨_, SqL.of e15⟩, fun D16 hD16 => comp_trueL hD16 e15 hv15 (by rw [List.length_append]; omega) (fun x d H' hd hx s b R hR' => ?_) (fun H16 s16 e16 => ?_)⟩
      · refine ⟨x, d, rfl, hx, fun H'' s'' => ?_⟩
        rw [B15 d hd]
        refine ⟨false, false, rfl, ?_⟩
        exact hR' H'' s''
      · refine ⟨D16, _, rfl, SqL.of e16, ?_⟩
        rw [all_rep]
        exact ⟨_, _, _, _, _, _, _, rfl, S15.trans s16⟩
    · refine hideP fun Rz0 hRz0 => ?_
      obtain ⟨o1, o2, o3, o4, o5, o6, o7, eσ, S⟩ := hz28
      subst hRz0
      subst eσ
      refine nx_of ?_
      refine (set_lstS (σ := [some (.ref a), o1, o2, o3, o4, o5, o6, o7]) (fun z => [some (.ref a), o1, o2, o3, o4, o5, o6, z]) (fun _ => rfl) (tds_cons (td_tup (tds_cons (td_wide (n := 6) (m := 4) (by decide) (by decide)) (tds_cons (td_tup tds_nil (by exact Nat.le_of_ble_eq_true rfl)) tds_nil)) (by exact Nat.le_of_ble_eq_true rfl)) (tds_cons (td_tup (tds_cons (td_wide (n := 2) (m := 12) (by decide) (by decide)) (tds_cons (td_lettersof (n := 24) (by decide)) tds_nil)) (by exact Nat.le_of_ble_eq_true rfl)) (tds_cons (td_tup (tds_cons (td_wide (n := 1) (m := 24) (by decide) (by decide)) (tds_cons (td_tup tds_nil (by exact Nat.le_of_ble_eq_true rfl)) tds_nil)) (by exact Nat.le_of_ble_eq_true rfl)) tds_nil))) (by exact Nat.le_of_ble_eq_true rfl) fun a1 vs1 H1 fa1 s1 ea1 hv1 => ?_)
      refine (do_appS (a := a1) rfl ea1 hv1 (by exact Nat.le_of_ble_eq_true rfl) (td_tup (tds_cons (td_tup (tds_cons (td_tup (tds_cons (td_str (by decide +kernel)) (tds_cons td_int (tds_cons td_int (tds_cons td_int (tds_cons (td_tup tds_nil (by exact Nat.le_of_ble_eq_true rfl)) tds_nil))))) (by exact Nat.le_of_ble_eq_true rfl)) tds_nil) (by exact Nat.le_of_ble_eq_true rfl)) (tds_cons (td_tup tds_nil (by exact Nat.le_of_ble_eq_true rfl)) tds_nil)) (by exact Nat.le_of_ble_eq_true rfl)) fun H2 vs2 k2 sb2 ea2 hv2 => ?_)
      refine ⟨a1, rfl, ⟨_, SqL.of ea2⟩, fun D3 hD3 => comp_trueL hD3 ea2 hv2 (by exact Nat.le_of_ble_eq_true rfl) (fun x d H' hd hx s b R hR' => ?_) (fun H3 s3 e3 => ?_)⟩
      · refine ⟨x, d, rfl, hx, fun H'' s'' => ?_⟩
        have gd : ∀ d ∈ _, ledgerD d = true := fa_app (p := fun d => ledgerD d = true) (fa_cons g64 (fa_cons g212 (fa_cons g124 fa_nil))) (fa_cons ga fa_nil)
        rw [gd d hd]
        refine ⟨true, true, rfl, ?_⟩
        exact hR' H'' s''
      · refine ⟨D3, _, rfl, SqL.of e3, ?_⟩
        rw [all_rep]
        exact q H3
end
end K02
theorem PySem.W.Fast.te8158601702850589021 : True := trivial
namespace K02
open PySem L2
theorem weight_mem : ∀ {xs : List PySem.W.WData} {x : PySem.W.WData}, x ∈ xs → PySem.W.WData.weight x ≤ PySem.W.WData.weightAll xs
  | y :: xs, x, h => by
    unfold PySem.W.WData.weightAll
    rcases List.mem_cons.mp h with z | z
    · rw [z]; omega
    · have := weight_mem z; omega
theorem bits_of {ns : List Int} (h : PySem.W.WData.layableAll [PySem.W.WData.list (ns.map PySem.W.WData.int)] = true) : ∀ n ∈ ns, Bits n := fun n hn => by
  have h1 := List.all_eq_true.mp h _ List.mem_cons_self
  unfold PySem.W.WData.layable at h1
  have h2 := of_decide_eq_true (Bool.and_eq_true_iff.mp h1).2
  unfold PySem.W.WData.weight at h2
  have h3 := weight_mem (List.mem_map_of_mem (f := PySem.W.WData.int) hn)
  unfold PySem.W.WData.weight at h3
  have e : (2 : Nat) ^ 20 = 1048576 := by decide
  rw [e] at h2
  exact Nat.le_trans h3 h2
theorem walk_bits {l : PySem.W.OpenLaw} {n k : Nat} {q : Program} {loose : List Str} {XP : (Str → Option Value) → Heap → Prop} {YP : World → Heap → Prop} {d : DefRec} {K : Params → PySem.W.Frag} {CX : World → CXT} {sp : World → Sp} {x : Str}
    (hn : l.most = some n) (hn2 : n ≤ sizeLine) (hdf : d.params.defaults = []) (hr : Room k callerA) (hY : ∀ (w : World) (h : Heap), YP w h → (K w.params).In h)
    (F : ∀ (w : World) (mg : Str → Option Value) (fa : Addr) (h : Heap), (K w.params).In h → h.Ns mainGlobals mg → mg d.name = some (.ref fa) →
      ∃ fd : FuncData, (∀ (s : Shared) (u : Value), BindsTo s fd ⟨[u], []⟩ [(x, u)]) ∧ ∀ base : Heap, (K w.params).In base → base.Ns mainGlobals mg → FnOk l.prog w (K w.params) mg base (CX w) k fa fd [x] (sp w))
    (hsp : ∀ (w : World) (H : Hp) (a : Addr) (ns : List Int), ns.length ≤ n → (∀ m ∈ ns, Bits m) → Only H → SqL (K w.params) H a (ns.map V.int) → sp w [.ref a] H (fun v _ => v = .bl true) fun _ _ _ => False)
    (hCX : ∀ (w : World) (H : Hp) (s : Shared) (e : Value) (s' : Shared), CX w [] H s (fun _ _ _ => False) e s' → False) : PySem.W.WalkO q loose XP YP l.row.toRowW d [] (fun f vs => PySem.call f vs) := by
  intro w s₀ s₁ mg mb G Y fa o pm cd doc dV kV ho hd hcd hD hmg hg args vals as hpre hlay hrd hwl hlo
  obtain rfl : dV = .none := PySem.W.Dflts.none hD hdf
  obtain rfl : kV = .none := PySem.W.Dflts.noKw hD
  obtain ⟨a, vs, ns, rfl, rfl, hobj, hints, hlen⟩ := Att.script_of hn hpre hwl
  have KX := hY w _ Y
  obtain ⟨fd, hb, hF⟩ := F w mg fa _ KX G.T.g hmg
  have key := law_call KX G.T.g G.T.b G.T.builtins G.T.nolimit hg hobj hints (Nat.le_trans hlen hn2) hr hF hb (fun H hO hS => hsp w H a ns hlen (bits_of hlay) hO hS) fun H e s' => hCX w H s₁ e s'
  refine PySem.W.enter_call (codeAny_mono key fun r s' hq => ?_)
  obtain ⟨rfl, h2, h3, h4⟩ := hq
  exact ⟨.inl ⟨.bool true, .bool true, [], rfl, fun _ => rfl, .bool true, Att.post_true l _, fun _ => ⟨List.Pairwise.nil, fun _ hm => (nomatch hm)⟩⟩, h2, h3, h4⟩
theorem all_mk {l : PySem.W.OpenLaw} {w : World} {K : PySem.W.Frag} {h : Heap} {mg : Str → Option Value} {fa f1 f2 f3 f4 f5 f6 f7 f8 f9 f10 f11 f12 f13 f14 f15 f16 f17 f18 f19 f20 f21 f22 f23 f24 f25 f26 f27 f28 f29 f30 f31 : Addr} {t8 t6 tR tL : Tok} (X : K.In h) (G : h.Ns mainGlobals mg) (hfa : mg "law" = some (.ref fa))
    {od1 an1 od2 an2 od3 an3 od4 an4 od5 an5 od6 an6 od7 an7 od8 an8 od9 an9 od10 an10 od11 an11 od12 an12 od13 an13 od14 an14 od15 an15 od16 an16 od17 an17 od18 an18 od19 an19 od20 an20 od21 an21 od22 an22 od23 an23 od24 an24 od25 an25 od26 an26 od27 an27 od28 an28 od29 an29 od30 an30 od31 an31 : Option Addr} {sl1 sl2 sl3 sl4 sl5 sl6 sl7 sl8 sl9 sl10 sl11 sl12 sl13 sl14 sl15 sl16 sl17 sl18 sl19 sl20 sl21 sl22 sl23 sl24 sl25 sl26 sl27 sl28 sl29 sl30 sl31 : Array (Option Value)} {oc1 kV1 dc1 pm1 cd1 ct1 oc2 kV2 dc2 pm2 cd2 ct2 oc3 kV3 dc3 pm3 cd3 ct3 oc4 kV4 dc4 pm4 cd4 ct4 oc5 kV5 dc5 pm5 cd5 ct5 oc6 kV6 dc6 pm6 cd6 ct6 oc7 kV7 dc7 pm7 cd7 ct7 oc8 kV8 dc8 pm8 cd8 ct8 oc9 kV9 dc9 pm9 cd9 ct9 oc10 kV10 dc10 pm10 cd10 ct10 oc11 kV11 dc11 pm11 cd11 ct11 oc12 kV12 dc12 pm12 cd12 ct12 oc13 kV13 dc13 pm13 cd13 ct13 oc14 kV14 dc14 pm14 cd14 ct14 oc15 kV15 dc15 pm15 cd15 ct15 oc16 kV16 dc16 pm16 cd16 ct16 oc17 kV17 dc17 pm17 cd17 ct17 oc18 kV18 dc18 pm18 cd18 ct18 oc19 kV19 dc19 pm19 cd19 ct19 oc20 kV20 dc20 pm20 cd20 ct20 oc21 kV21 dc21 pm21 cd21 ct21 oc22 kV22 dc22 pm22 cd22 ct22 oc23 kV23 dc23 pm23 cd23 ct23 oc24 kV24 dc24 pm24 cd24 ct24 oc25 kV25 dc25 pm25 cd25 ct25 oc26 kV26 dc26 pm26 cd26 ct26 oc27 kV27 dc27 pm27 cd27 ct27 oc28 kV28 dc28 pm28 cd28 ct28 oc29 kV29 dc29 pm29 cd29 ct29 oc30 kV30 dc30 pm30 cd30 ct30 oc31 kV31 dc31 pm31 cd31 ct31 : Value}
    (a1 : PySem.W.nsIn K mainGlobals "is_whole" = some (some (.ref f1))) (l1 : K.lookup f1 = some ⟨oc1, od1, .func (PySem.W.fnOf "is_whole" "is_whole" (defArgs sWhole) (defBody sWhole) (defScope sWhole) .none kV1 dc1 pm1 an1 cd1 ct1), sl1⟩) (c1 : PySem.W.codeIn K cd1 "is_whole" = true) (k1 : PySem.W.keepIn K (.ref f1) = true)
    (a2 : PySem.W.nsIn K mainGlobals "is_name" = some (some (.ref f2))) (l2 : K.lookup f2 = some ⟨oc2, od2, .func (PySem.W.fnOf "is_name" "is_name" (defArgs sName) (defBody sName) (defScope sName) .none kV2 dc2 pm2 an2 cd2 ct2), sl2⟩) (c2 : PySem.W.codeIn K cd2 "is_name" = true) (k2 : PySem.W.keepIn K (.ref f2) = true)
    (a3 : PySem.W.nsIn K mainGlobals "has_parts" = some (some (.ref f3))) (l3 : K.lookup f3 = some ⟨oc3, od3, .func (PySem.W.fnOf "has_parts" "has_parts" (defArgs sParts) (defBody sParts) (defScope sParts) .none kV3 dc3 pm3 an3 cd3 ct3), sl3⟩) (c3 : PySem.W.codeIn K cd3 "has_parts" = true) (k3 : PySem.W.keepIn K (.ref f3) = true)
    (a4 : PySem.W.nsIn K mainGlobals "is_rising" = some (some (.ref f4))) (l4 : K.lookup f4 = some ⟨oc4, od4, .func (PySem.W.fnOf "is_rising" "is_rising" (defArgs sRising) (defBody sRising) (defScope sRising) .none kV4 dc4 pm4 an4 cd4 ct4), sl4⟩) (c4 : PySem.W.codeIn K cd4 "is_rising" = true) (k4 : PySem.W.keepIn K (.ref f4) = true)
    (a5 : PySem.W.nsIn K mainGlobals "is_named_number" = some (some (.ref f5))) (l5 : K.lookup f5 = some ⟨oc5, od5, .func (PySem.W.fnOf "is_named_number" "is_named_number" (defArgs sNamed) (defBody sNamed) (defScope sNamed) .none kV5 dc5 pm5 an5 cd5 ct5), sl5⟩) (c5 : PySem.W.codeIn K cd5 "is_named_number" = true) (k5 : PySem.W.keepIn K (.ref f5) = true)
    (a6 : PySem.W.nsIn K mainGlobals "is_clock" = some (some (.ref f6))) (l6 : K.lookup f6 = some ⟨oc6, od6, .func (PySem.W.fnOf "is_clock" "is_clock" (defArgs sClock) (defBody sClock) (defScope sClock) .none kV6 dc6 pm6 an6 cd6 ct6), sl6⟩) (c6 : PySem.W.codeIn K cd6 "is_clock" = true) (k6 : PySem.W.keepIn K (.ref f6) = true)
    (a7 : PySem.W.nsIn K mainGlobals "is_run" = some (some (.ref f7))) (l7 : K.lookup f7 = some ⟨oc7, od7, .func (PySem.W.fnOf "is_run" "is_run" (defArgs sRun) (defBody sRun) (defScope sRun) .none kV7 dc7 pm7 an7 cd7 ct7), sl7⟩) (c7 : PySem.W.codeIn K cd7 "is_run" = true) (k7 : PySem.W.keepIn K (.ref f7) = true)
    (a8 : PySem.W.nsIn K mainGlobals "is_house" = some (some (.ref f8))) (l8 : K.lookup f8 = some ⟨oc8, od8, .func (PySem.W.fnOf "is_house" "is_house" (defArgs sHouse) (defBody sHouse) (defScope sHouse) .none kV8 dc8 pm8 an8 cd8 ct8), sl8⟩) (c8 : PySem.W.codeIn K cd8 "is_house" = true) (k8 : PySem.W.keepIn K (.ref f8) = true)
    (a9 : PySem.W.nsIn K mainGlobals "rows_in" = some (some (.ref f9))) (l9 : K.lookup f9 = some ⟨oc9, od9, .func (PySem.W.fnOf "rows_in" "rows_in" (defArgs sRowsIn) (defBody sRowsIn) (defScope sRowsIn) .none kV9 dc9 pm9 an9 cd9 ct9), sl9⟩) (c9 : PySem.W.codeIn K cd9 "rows_in" = true) (k9 : PySem.W.keepIn K (.ref f9) = true)
    (a10 : PySem.W.nsIn K mainGlobals "row_names" = some (some (.ref f10))) (l10 : K.lookup f10 = some ⟨oc10, od10, .func (PySem.W.fnOf "row_names" "row_names" (defArgs sRowNames) (defBody sRowNames) (defScope sRowNames) .none kV10 dc10 pm10 an10 cd10 ct10), sl10⟩) (c10 : PySem.W.codeIn K cd10 "row_names" = true) (k10 : PySem.W.keepIn K (.ref f10) = true)
    (a11 : PySem.W.nsIn K mainGlobals "are_unlike" = some (some (.ref f11))) (l11 : K.lookup f11 = some ⟨oc11, od11, .func (PySem.W.fnOf "are_unlike" "are_unlike" (defArgs sUnlike) (defBody sUnlike) (defScope sUnlike) .none kV11 dc11 pm11 an11 cd11 ct11), sl11⟩) (c11 : PySem.W.codeIn K cd11 "are_unlike" = true) (k11 : PySem.W.keepIn K (.ref f11) = true)
    (a12 : PySem.W.nsIn K mainGlobals "are_houses" = some (some (.ref f12))) (l12 : K.lookup f12 = some ⟨oc12, od12, .func (PySem.W.fnOf "are_houses" "are_houses" (defArgs sHouses) (defBody sHouses) (defScope sHouses) .none kV12 dc12 pm12 an12 cd12 ct12), sl12⟩) (c12 : PySem.W.codeIn K cd12 "are_houses" = true) (k12 : PySem.W.keepIn K (.ref f12) = true)
    (a13 : PySem.W.nsIn K mainGlobals "is_letter" = some (some (.ref f13))) (l13 : K.lookup f13 = some ⟨oc13, od13, .func (PySem.W.fnOf "is_letter" "is_letter" (defArgs sLetter) (defBody sLetter) (defScope sLetter) .none kV13 dc13 pm13 an13 cd13 ct13), sl13⟩) (c13 : PySem.W.codeIn K cd13 "is_letter" = true) (k13 : PySem.W.keepIn K (.ref f13) = true)
    (a14 : PySem.W.nsIn K mainGlobals "are_letters" = some (some (.ref f14))) (l14 : K.lookup f14 = some ⟨oc14, od14, .func (PySem.W.fnOf "are_letters" "are_letters" (defArgs sLetters) (defBody sLetters) (defScope sLetters) .none kV14 dc14 pm14 an14 cd14 ct14), sl14⟩) (c14 : PySem.W.codeIn K cd14 "are_letters" = true) (k14 : PySem.W.keepIn K (.ref f14) = true)
    (a15 : PySem.W.nsIn K mainGlobals "is_ledger" = some (some (.ref f15))) (l15 : K.lookup f15 = some ⟨oc15, od15, .func (PySem.W.fnOf "is_ledger" "is_ledger" (defArgs sLedger) (defBody sLedger) (defScope sLedger) .none kV15 dc15 pm15 an15 cd15 ct15), sl15⟩) (c15 : PySem.W.codeIn K cd15 "is_ledger" = true) (k15 : PySem.W.keepIn K (.ref f15) = true)
    (a16 : PySem.W.nsIn K mainGlobals "_law_mixed" = some (some (.ref f16))) (l16 : K.lookup f16 = some ⟨oc16, od16, .func (PySem.W.fnOf "_law_mixed" "_law_mixed" (defArgs sMixed) (defBody sMixed) (defScope sMixed) .none kV16 dc16 pm16 an16 cd16 ct16), sl16⟩) (c16 : PySem.W.codeIn K cd16 "_law_mixed" = true) (k16 : PySem.W.keepIn K (.ref f16) = true)
    (a17 : PySem.W.nsIn K mainGlobals "_law_pack" = some (some (.ref f17))) (l17 : K.lookup f17 = some ⟨oc17, od17, .func (PySem.W.fnOf "_law_pack" "_law_pack" (defArgs sPack) (defBody sPack) (defScope sPack) .none kV17 dc17 pm17 an17 cd17 ct17), sl17⟩) (c17 : PySem.W.codeIn K cd17 "_law_pack" = true) (k17 : PySem.W.keepIn K (.ref f17) = true)
    (a18 : PySem.W.nsIn K mainGlobals "_law_take" = some (some (.ref f18))) (l18 : K.lookup f18 = some ⟨oc18, od18, .func (PySem.W.fnOf "_law_take" "_law_take" (defArgs sTake) (defBody sTake) (defScope sTake) .none kV18 dc18 pm18 an18 cd18 ct18), sl18⟩) (c18 : PySem.W.codeIn K cd18 "_law_take" = true) (k18 : PySem.W.keepIn K (.ref f18) = true)
    (a19 : PySem.W.nsIn K mainGlobals "_law_names" = some (some (.ref f19))) (l19 : K.lookup f19 = some ⟨oc19, od19, .func (PySem.W.fnOf "_law_names" "_law_names" (defArgs sNames) (defBody sNames) (defScope sNames) .none kV19 dc19 pm19 an19 cd19 ct19), sl19⟩) (c19 : PySem.W.codeIn K cd19 "_law_names" = true) (k19 : PySem.W.keepIn K (.ref f19) = true)
    (a20 : PySem.W.nsIn K mainGlobals "_law_house" = some (some (.ref f20))) (l20 : K.lookup f20 = some ⟨oc20, od20, .func (PySem.W.fnOf "_law_house" "_law_house" (defArgs sMkHouse) (defBody sMkHouse) (defScope sMkHouse) .none kV20 dc20 pm20 an20 cd20 ct20), sl20⟩) (c20 : PySem.W.codeIn K cd20 "_law_house" = true) (k20 : PySem.W.keepIn K (.ref f20) = true)
    (a21 : PySem.W.nsIn K mainGlobals "_law_letters" = some (some (.ref f21))) (l21 : K.lookup f21 = some ⟨oc21, od21, .func (PySem.W.fnOf "_law_letters" "_law_letters" (defArgs sMkLetters) (defBody sMkLetters) (defScope sMkLetters) .none kV21 dc21 pm21 an21 cd21 ct21), sl21⟩) (c21 : PySem.W.codeIn K cd21 "_law_letters" = true) (k21 : PySem.W.keepIn K (.ref f21) = true)
    (a22 : PySem.W.nsIn K mainGlobals "_law_ledger" = some (some (.ref f22))) (l22 : K.lookup f22 = some ⟨oc22, od22, .func (PySem.W.fnOf "_law_ledger" "_law_ledger" (defArgs sMkLedger) (defBody sMkLedger) (defScope sMkLedger) .none kV22 dc22 pm22 an22 cd22 ct22), sl22⟩) (c22 : PySem.W.codeIn K cd22 "_law_ledger" = true) (k22 : PySem.W.keepIn K (.ref f22) = true)
    (a23 : PySem.W.nsIn K mainGlobals "_law_bent" = some (some (.ref f23))) (l23 : K.lookup f23 = some ⟨oc23, od23, .func (PySem.W.fnOf "_law_bent" "_law_bent" (defArgs sBent) (defBody sBent) (defScope sBent) .none kV23 dc23 pm23 an23 cd23 ct23), sl23⟩) (c23 : PySem.W.codeIn K cd23 "_law_bent" = true) (k23 : PySem.W.keepIn K (.ref f23) = true)
    (a24 : PySem.W.nsIn K mainGlobals "_law_rows" = some (some (.ref f24))) (l24 : K.lookup f24 = some ⟨oc24, od24, .func (PySem.W.fnOf "_law_rows" "_law_rows" (defArgs sRows) (defBody sRows) (defScope sRows) .none kV24 dc24 pm24 an24 cd24 ct24), sl24⟩) (c24 : PySem.W.codeIn K cd24 "_law_rows" = true) (k24 : PySem.W.keepIn K (.ref f24) = true)
    (a25 : PySem.W.nsIn K mainGlobals "_law_is" = some (some (.ref f25))) (l25 : K.lookup f25 = some ⟨oc25, od25, .func (PySem.W.fnOf "_law_is" "_law_is" (defArgs sIs) (defBody sIs) (defScope sIs) .none kV25 dc25 pm25 an25 cd25 ct25), sl25⟩) (c25 : PySem.W.codeIn K cd25 "_law_is" = true) (k25 : PySem.W.keepIn K (.ref f25) = true)
    (a26 : PySem.W.nsIn K mainGlobals "_law_wide" = some (some (.ref f26))) (l26 : K.lookup f26 = some ⟨oc26, od26, .func (PySem.W.fnOf "_law_wide" "_law_wide" (defArgs sWide) (defBody sWide) (defScope sWide) .none kV26 dc26 pm26 an26 cd26 ct26), sl26⟩) (c26 : PySem.W.codeIn K cd26 "_law_wide" = true) (k26 : PySem.W.keepIn K (.ref f26) = true)
    (a27 : PySem.W.nsIn K mainGlobals "_law_letters_of" = some (some (.ref f27))) (l27 : K.lookup f27 = some ⟨oc27, od27, .func (PySem.W.fnOf "_law_letters_of" "_law_letters_of" (defArgs sLettersOf) (defBody sLettersOf) (defScope sLettersOf) .none kV27 dc27 pm27 an27 cd27 ct27), sl27⟩) (c27 : PySem.W.codeIn K cd27 "_law_letters_of" = true) (k27 : PySem.W.keepIn K (.ref f27) = true)
    (a28 : PySem.W.nsIn K mainGlobals "_law_no_houses" = some (some (.ref f28))) (l28 : K.lookup f28 = some ⟨oc28, od28, .func (PySem.W.fnOf "_law_no_houses" "_law_no_houses" (defArgs sNoHouses) (defBody sNoHouses) (defScope sNoHouses) .none kV28 dc28 pm28 an28 cd28 ct28), sl28⟩) (c28 : PySem.W.codeIn K cd28 "_law_no_houses" = true) (k28 : PySem.W.keepIn K (.ref f28) = true)
    (a29 : PySem.W.nsIn K mainGlobals "_law_no_letters" = some (some (.ref f29))) (l29 : K.lookup f29 = some ⟨oc29, od29, .func (PySem.W.fnOf "_law_no_letters" "_law_no_letters" (defArgs sNoLetters) (defBody sNoLetters) (defScope sNoLetters) .none kV29 dc29 pm29 an29 cd29 ct29), sl29⟩) (c29 : PySem.W.codeIn K cd29 "_law_no_letters" = true) (k29 : PySem.W.keepIn K (.ref f29) = true)
    (a30 : PySem.W.nsIn K mainGlobals "_law_all_none" = some (some (.ref f30))) (l30 : K.lookup f30 = some ⟨oc30, od30, .func (PySem.W.fnOf "_law_all_none" "_law_all_none" (defArgs sAllNone) (defBody sAllNone) (defScope sAllNone) .none kV30 dc30 pm30 an30 cd30 ct30), sl30⟩) (c30 : PySem.W.codeIn K cd30 "_law_all_none" = true) (k30 : PySem.W.keepIn K (.ref f30) = true)
    (a31 : PySem.W.nsIn K mainGlobals "law" = some (some (.ref f31))) (l31 : K.lookup f31 = some ⟨oc31, od31, .func (PySem.W.fnOf "law" "law" (defArgs sLaw) (defBody sLaw) (defScope sLaw) .none kV31 dc31 pm31 an31 cd31 ct31), sl31⟩) (c31 : PySem.W.codeIn K cd31 "law" = true) (k31 : PySem.W.keepIn K (.ref f31) = true)
    (y1 : PySem.W.nsIn K mainGlobals "LONGEST_NAME" = some (some (.int 8 t8))) (y2 : PySem.W.nsIn K mainGlobals "MOST_HOUSES" = some (some (.int 6 t6))) (y3 : PySem.W.nsIn K mainGlobals "MOST_ROWS" = some (some (.int 24 tR))) (y4 : PySem.W.nsIn K mainGlobals "MOST_LETTERS" = some (some (.int 24 tL))) (z1 : PySem.W.nsIn K mainGlobals "isinstance" = some none) (z2 : PySem.W.nsIn K mainGlobals "int" = some none) (z3 : PySem.W.nsIn K mainGlobals "bool" = some none) (z4 : PySem.W.nsIn K mainGlobals "str" = some none) (z5 : PySem.W.nsIn K mainGlobals "tuple" = some none) (z6 : PySem.W.nsIn K mainGlobals "len" = some none) (z7 : PySem.W.nsIn K mainGlobals "all" = some none) (z8 : PySem.W.nsIn K mainGlobals "zip" = some none) (z9 : PySem.W.nsIn K mainGlobals "set" = some none) (z10 : PySem.W.nsIn K mainGlobals "sorted" = some none) (z11 : PySem.W.nsIn K mainGlobals "divmod" = some none) (z12 : PySem.W.nsIn K mainGlobals "range" = some none) (z13 : PySem.W.nsIn K mainGlobals "max" = some none) (z14 : PySem.W.nsIn K mainGlobals "min" = some none) (z15 : PySem.W.nsIn K mainGlobals "abs" = some none) (z16 : PySem.W.nsIn K mainGlobals "list" = some none) :
    ∃ fd : FuncData, (∀ (s : Shared) (v : Value), BindsTo s fd ⟨[v], []⟩ [("_law_script", v)]) ∧ ∀ base : Heap, K.In base → base.Ns mainGlobals mg → FnOk l.prog w K mg base CX0 7 fa fd ["_law_script"] (spLaw K) := by
  have e := hfa.symm.trans (PySem.W.mg_of X G a31)
  cases e
  have T : Txt mg t8 t6 tR tL := ⟨PySem.W.mg_none_of X G z1, PySem.W.mg_none_of X G z2, PySem.W.mg_none_of X G z3, PySem.W.mg_none_of X G z4, PySem.W.mg_none_of X G z5, PySem.W.mg_none_of X G z6, PySem.W.mg_none_of X G z7, PySem.W.mg_none_of X G z8, PySem.W.mg_none_of X G z9, PySem.W.mg_none_of X G z10, PySem.W.mg_none_of X G z11, PySem.W.mg_none_of X G z12, PySem.W.mg_none_of X G z13, PySem.W.mg_none_of X G z14, PySem.W.mg_none_of X G z15, PySem.W.mg_none_of X G z16, PySem.W.mg_of X G y1, PySem.W.mg_of X G y2, PySem.W.mg_of X G y3, PySem.W.mg_of X G y4⟩
  have F1 := fun_mk (st := sWhole) l1 c1 k1
  have b1 := F1.binds (ps := ["thing"]) fun _ _ _ _ _ _ us hl => match us, hl with | [_], _ => rfl
  have F2 := fun_mk (st := sName) l2 c2 k2
  have b2 := F2.binds (ps := ["thing"]) fun _ _ _ _ _ _ us hl => match us, hl with | [_], _ => rfl
  have F3 := fun_mk (st := sParts) l3 c3 k3
  have b3 := F3.binds (ps := ["thing", "many"]) fun _ _ _ _ _ _ us hl => match us, hl with | [_, _], _ => rfl
  have F4 := fun_mk (st := sRising) l4 c4 k4
  have b4 := F4.binds (ps := ["values"]) fun _ _ _ _ _ _ us hl => match us, hl with | [_], _ => rfl
  have F5 := fun_mk (st := sNamed) l5 c5 k5
  have b5 := F5.binds (ps := ["thing"]) fun _ _ _ _ _ _ us hl => match us, hl with | [_], _ => rfl
  have F6 := fun_mk (st := sClock) l6 c6 k6
  have b6 := F6.binds (ps := ["name", "low", "high", "drift"]) fun _ _ _ _ _ _ us hl => match us, hl with | [_, _, _, _], _ => rfl
  have F7 := fun_mk (st := sRun) l7 c7 k7
  have b7 := F7.binds (ps := ["thing"]) fun _ _ _ _ _ _ us hl => match us, hl with | [_], _ => rfl
  have F8 := fun_mk (st := sHouse) l8 c8 k8
  have b8 := F8.binds (ps := ["thing"]) fun _ _ _ _ _ _ us hl => match us, hl with | [_], _ => rfl
  have F9 := fun_mk (st := sRowsIn) l9 c9 k9
  have b9 := F9.binds (ps := ["house"]) fun _ _ _ _ _ _ us hl => match us, hl with | [_], _ => rfl
  have F10 := fun_mk (st := sRowNames) l10 c10 k10
  have b10 := F10.binds (ps := ["houses"]) fun _ _ _ _ _ _ us hl => match us, hl with | [_], _ => rfl
  have F11 := fun_mk (st := sUnlike) l11 c11 k11
  have b11 := F11.binds (ps := ["names"]) fun _ _ _ _ _ _ us hl => match us, hl with | [_], _ => rfl
  have F12 := fun_mk (st := sHouses) l12 c12 k12
  have b12 := F12.binds (ps := ["thing"]) fun _ _ _ _ _ _ us hl => match us, hl with | [_], _ => rfl
  have F13 := fun_mk (st := sLetter) l13 c13 k13
  have b13 := F13.binds (ps := ["thing"]) fun _ _ _ _ _ _ us hl => match us, hl with | [_], _ => rfl
  have F14 := fun_mk (st := sLetters) l14 c14 k14
  have b14 := F14.binds (ps := ["thing", "houses"]) fun _ _ _ _ _ _ us hl => match us, hl with | [_, _], _ => rfl
  have F15 := fun_mk (st := sLedger) l15 c15 k15
  have b15 := F15.binds (ps := ["thing"]) fun _ _ _ _ _ _ us hl => match us, hl with | [_], _ => rfl
  have F16 := fun_mk (st := sMixed) l16 c16 k16
  have b16 := F16.binds (ps := ["_law_cell"]) fun _ _ _ _ _ _ us hl => match us, hl with | [_], _ => rfl
  have F17 := fun_mk (st := sPack) l17 c17 k17
  have b17 := F17.binds (ps := ["_law_script", "_law_k"]) fun _ _ _ _ _ _ us hl => match us, hl with | [_, _], _ => rfl
  have F18 := fun_mk (st := sTake) l18 c18 k18
  have b18 := F18.binds (ps := ["_law_pack_here", "_law_size"]) fun _ _ _ _ _ _ us hl => match us, hl with | [_, _], _ => rfl
  have F19 := fun_mk (st := sNames) l19 c19 k19
  have b19 := F19.binds (ps := ["_law_pack_here", "_law_amount"]) fun _ _ _ _ _ _ us hl => match us, hl with | [_, _], _ => rfl
  have F20 := fun_mk (st := sMkHouse) l20 c20 k20
  have b20 := F20.binds (ps := ["_law_pack_here", "_law_name", "_law_names_here", "_law_room"]) fun _ _ _ _ _ _ us hl => match us, hl with | [_, _, _, _], _ => rfl
  have F21 := fun_mk (st := sMkLetters) l21 c21 k21
  have b21 := F21.binds (ps := ["_law_pack_here", "_law_houses", "_law_hidden"]) fun _ _ _ _ _ _ us hl => match us, hl with | [_, _, _], _ => rfl
  have F22 := fun_mk (st := sMkLedger) l22 c22 k22
  have b22 := F22.binds (ps := ["_law_script", "_law_k"]) fun _ _ _ _ _ _ us hl => match us, hl with | [_, _], _ => rfl
  have F23 := fun_mk (st := sBent) l23 c23 k23
  have b23 := F23.binds (ps := ["_law_pack_here", "_law_ledger_here"]) fun _ _ _ _ _ _ us hl => match us, hl with | [_, _], _ => rfl
  have F24 := fun_mk (st := sRows) l24 c24 k24
  have b24 := F24.binds (ps := ["_law_ledger_here"]) fun _ _ _ _ _ _ us hl => match us, hl with | [_], _ => rfl
  have F25 := fun_mk (st := sIs) l25 c25 k25
  have b25 := F25.binds (ps := ["_law_found", "_law_due"]) fun _ _ _ _ _ _ us hl => match us, hl with | [_, _], _ => rfl
  have F26 := fun_mk (st := sWide) l26 c26 k26
  have b26 := F26.binds (ps := ["_law_houses", "_law_rows_here"]) fun _ _ _ _ _ _ us hl => match us, hl with | [_, _], _ => rfl
  have F27 := fun_mk (st := sLettersOf) l27 c27 k27
  have b27 := F27.binds (ps := ["_law_amount"]) fun _ _ _ _ _ _ us hl => match us, hl with | [_], _ => rfl
  have F28 := fun_mk (st := sNoHouses) l28 c28 k28
  have b28 := F28.binds (ps := ["_law_house_here", "_law_at", "_law_houses"]) fun _ _ _ _ _ _ us hl => match us, hl with | [_, _, _], _ => rfl
  have F29 := fun_mk (st := sNoLetters) l29 c29 k29
  have b29 := F29.binds (ps := ["_law_houses", "_law_letters_here"]) fun _ _ _ _ _ _ us hl => match us, hl with | [_, _], _ => rfl
  have F30 := fun_mk (st := sAllNone) l30 c30 k30
  have b30 := F30.binds (ps := ["_law_houses", "_law_letters_here"]) fun _ _ _ _ _ _ us hl => match us, hl with | [_, _], _ => rfl
  have F31 := fun_mk (st := sLaw) l31 c31 k31
  have b31 := F31.binds (ps := ["_law_script"]) fun _ _ _ _ _ _ us hl => match us, hl with | [_], _ => rfl
  refine ⟨PySem.W.fnOf "law" "law" (defArgs sLaw) (defBody sLaw) (defScope sLaw) .none kV31 dc31 pm31 an31 cd31 ct31, fun s v => .of_eq rfl, fun base _ _ => ?_⟩
  have G1 : FnOk l.prog w K mg base CX0 1 f1 _ ["thing"] (spWhole K) := ok_whole F1 T
  have G2 : FnOk l.prog w K mg base CX0 1 f2 _ ["thing"] (spName K) := ok_name F2 T
  have G3 : FnOk l.prog w K mg base CX0 1 f3 _ ["thing", "many"] spParts := ok_parts F3 T
  have G4 : FnOk l.prog w K mg base CX0 1 f4 _ ["values"] spRising := ok_rising F4 T
  have G5 : FnOk l.prog w K mg base CX0 2 f5 _ ["thing"] (spD namedD) := ok_named F5 G3 (PySem.W.mg_of X G a3) k3 b3 G2 (PySem.W.mg_of X G a2) k2 b2 G1 (PySem.W.mg_of X G a1) k1 b1
  have G6 : FnOk l.prog w K mg base CX0 2 f6 _ ["name", "low", "high", "drift"] spClock := ok_clock F6 T G2 (PySem.W.mg_of X G a2) k2 b2 G1 (PySem.W.mg_of X G a1) k1 b1
  have G7 : FnOk l.prog w K mg base CX0 3 f7 _ ["thing"] (spD runD) := ok_run F7 T G5 (PySem.W.mg_of X G a5) k5 b5 (G4.mono (by decide)) (PySem.W.mg_of X G a4) k4 b4
  have G8 : FnOk l.prog w K mg base CX0 4 f8 _ ["thing"] (spD houseD) := ok_house F8 T (G3.mono (by decide)) (PySem.W.mg_of X G a3) k3 b3 (G6.mono (by decide)) (PySem.W.mg_of X G a6) k6 b6 G7 (PySem.W.mg_of X G a7) k7 b7
  have G9 : FnOk l.prog w K mg base CX0 1 f9 _ ["house"] spRowsIn := ok_rowsin F9
  have G10 : FnOk l.prog w K mg base CX0 2 f10 _ ["houses"] spRowNames := ok_rownames F10 G9 (PySem.W.mg_of X G a9) k9 b9
  have G11 : FnOk l.prog w K mg base CX0 1 f11 _ ["names"] spUnlike := ok_unlike F11 T
  have G12 : FnOk l.prog w K mg base CX0 5 f12 _ ["thing"] (spD housesD) := ok_houses F12 T G8 (PySem.W.mg_of X G a8) k8 b8 (G10.mono (by decide)) (PySem.W.mg_of X G a10) k10 b10 (G11.mono (by decide)) (PySem.W.mg_of X G a11) k11 b11
  have G13 : FnOk l.prog w K mg base CX0 2 f13 _ ["thing"] (spD letterD) := ok_letter F13 G3 (PySem.W.mg_of X G a3) k3 b3 G2 (PySem.W.mg_of X G a2) k2 b2 G1 (PySem.W.mg_of X G a1) k1 b1
  have G14 : FnOk l.prog w K mg base CX0 3 f14 _ ["thing", "houses"] spLetters := ok_letters F14 T G13 (PySem.W.mg_of X G a13) k13 b13 (G9.mono (by decide)) (PySem.W.mg_of X G a9) k9 b9 (G4.mono (by decide)) (PySem.W.mg_of X G a4) k4 b4
  have G15 : FnOk l.prog w K mg base CX0 6 f15 _ ["thing"] (spD ledgerD) := ok_ledger F15 (G3.mono (by decide)) (PySem.W.mg_of X G a3) k3 b3 G12 (PySem.W.mg_of X G a12) k12 b12 (G14.mono (by decide)) (PySem.W.mg_of X G a14) k14 b14
  have G16 : FnOk l.prog w K mg base CX0 1 f16 _ ["_law_cell"] spMixed := ok_mixed F16
  have G17 : FnOk l.prog w K mg base CX0 2 f17 _ ["_law_script", "_law_k"] (spPack K) := ok_pack F17 T G16 (PySem.W.mg_of X G a16) k16 b16
  have G18 : FnOk l.prog w K mg base CX0 1 f18 _ ["_law_pack_here", "_law_size"] spTake := ok_take F18 T
  have G19 : FnOk l.prog w K mg base CX0 2 f19 _ ["_law_pack_here", "_law_amount"] spNames := ok_names F19 T G18 (PySem.W.mg_of X G a18) k18 b18
  have G20 : FnOk l.prog w K mg base CX0 2 f20 _ ["_law_pack_here", "_law_name", "_law_names_here", "_law_room"] spMkHouse := ok_mkhouse F20 T G18 (PySem.W.mg_of X G a18) k18 b18
  have G21 : FnOk l.prog w K mg base CX0 2 f21 _ ["_law_pack_here", "_law_houses", "_law_hidden"] spMkLetters := ok_mkletters F21 T G18 (PySem.W.mg_of X G a18) k18 b18
  have G22 : FnOk l.prog w K mg base CX0 3 f22 _ ["_law_script", "_law_k"] (spMkLedger K) := ok_mkledger F22 T G17 (PySem.W.mg_of X G a17) k17 b17 G19 (PySem.W.mg_of X G a19) k19 b19 (G18.mono (by decide)) (PySem.W.mg_of X G a18) k18 b18 G20 (PySem.W.mg_of X G a20) k20 b20 G21 (PySem.W.mg_of X G a21) k21 b21
  have G23 : FnOk l.prog w K mg base CX0 2 f23 _ ["_law_pack_here", "_law_ledger_here"] spBent := ok_bent F23 T G18 (PySem.W.mg_of X G a18) k18 b18
  have G24 : FnOk l.prog w K mg base CX0 1 f24 _ ["_law_ledger_here"] spRows := ok_rows F24 T
  have G25 : FnOk l.prog w K mg base CX0 1 f25 _ ["_law_found", "_law_due"] spIs := ok_is F25 T
  have G26 : FnOk l.prog w K mg base CX0 1 f26 _ ["_law_houses", "_law_rows_here"] spWide := ok_wide F26 T
  have G27 : FnOk l.prog w K mg base CX0 1 f27 _ ["_law_amount"] spLettersOf := ok_lettersof F27 T
  have G28 : FnOk l.prog w K mg base CX0 1 f28 _ ["_law_house_here", "_law_at", "_law_houses"] spNoHouses := ok_nohouses F28 T
  have G29 : FnOk l.prog w K mg base CX0 2 f29 _ ["_law_houses", "_law_letters_here"] spNoLetters := ok_noletters F29 T G24 (PySem.W.mg_of X G a24) k24 b24
  have G30 : FnOk l.prog w K mg base CX0 2 f30 _ ["_law_houses", "_law_letters_here"] spAllNone := ok_allnone F30 T G26 (PySem.W.mg_of X G a26) k26 b26 G27 (PySem.W.mg_of X G a27) k27 b27
  exact ok_law F31 T (G22.mono (by decide)) (PySem.W.mg_of X G a22) k22 b22 (G23.mono (by decide)) (PySem.W.mg_of X G a23) k23 b23 (G17.mono (by decide)) (PySem.W.mg_of X G a17) k17 b17 (G25.mono (by decide)) (PySem.W.mg_of X G a25) k25 b25 G15 (PySem.W.mg_of X G a15) k15 b15 (G18.mono (by decide)) (PySem.W.mg_of X G a18) k18 b18 (G28.mono (by decide)) (PySem.W.mg_of X G a28) k28 b28 (G29.mono (by decide)) (PySem.W.mg_of X G a29) k29 b29 (G30.mono (by decide)) (PySem.W.mg_of X G a30) k30 b30 (G26.mono (by decide)) (PySem.W.mg_of X G a26) k26 b26 (G27.mono (by decide)) (PySem.W.mg_of X G a27) k27 b27
theorem walk {l : PySem.W.OpenLaw} {q : Program} {loose : List Str} {XP : (Str → Option Value) → Heap → Prop} {YP : World → Heap → Prop} {d : DefRec} {K : Params → PySem.W.Frag} (hn : l.most = some 63) (hdf : d.params.defaults = [])
    (hY : ∀ (w : World) (h : Heap), YP w h → (K w.params).In h)
    (F : ∀ (w : World) (mg : Str → Option Value) (fa : Addr) (h : Heap), (K w.params).In h → h.Ns mainGlobals mg → mg d.name = some (.ref fa) →
      ∃ fd : FuncData, (∀ (s : Shared) (u : Value), BindsTo s fd ⟨[u], []⟩ [("_law_script", u)]) ∧ ∀ base : Heap, (K w.params).In base → base.Ns mainGlobals mg → FnOk l.prog w (K w.params) mg base CX0 7 fa fd ["_law_script"] (spLaw (K w.params))) :
    PySem.W.WalkO q loose XP YP l.row.toRowW d [] (fun f vs => PySem.call f vs) :=
  walk_bits (n := 63) (k := 7) (x := "_law_script") (CX := fun _ => CX0) (sp := fun w => spLaw (K w.params)) hn (by decide) hdf ⟨rfl, by decide, by decide⟩ hY F (fun _ _ a ns hl hb _ hS => ⟨a, ns, rfl, hS, hl, hb, fun _ => rfl⟩) fun _ _ _ _ _ z => z
end K02
open PySem PySem.W PyProof.Rows
set_option maxRecDepth 100000 in
set_option maxHeartbeats 0 in
theorem PySem.Challenge.cw_skewbooks_k02_ledgers_of_any_things_holds : PySem.Challenge.rw_skewbooks_k02_ledgers_of_any_things.Holds := by
  w_on; o_law; k_head; (case hw => w_witness2)
  k_fill
  refine K02.walk (l := PySem.Challenge.rw_skewbooks_k02_ledgers_of_any_things) rfl rfl (fun w h Y => PySem.W.kIn_of Y) ?F
  case F =>
    intro w mg fa h KX G hmg
    refine' K02.all_mk KX G hmg ?a1 ?l1 ?c1 ?k1 ?a2 ?l2 ?c2 ?k2 ?a3 ?l3 ?c3 ?k3 ?a4 ?l4 ?c4 ?k4 ?a5 ?l5 ?c5 ?k5 ?a6 ?l6 ?c6 ?k6 ?a7 ?l7 ?c7 ?k7 ?a8 ?l8 ?c8 ?k8 ?a9 ?l9 ?c9 ?k9 ?a10 ?l10 ?c10 ?k10 ?a11 ?l11 ?c11 ?k11 ?a12 ?l12 ?c12 ?k12 ?a13 ?l13 ?c13 ?k13 ?a14 ?l14 ?c14 ?k14 ?a15 ?l15 ?c15 ?k15 ?a16 ?l16 ?c16 ?k16 ?a17 ?l17 ?c17 ?k17 ?a18 ?l18 ?c18 ?k18 ?a19 ?l19 ?c19 ?k19 ?a20 ?l20 ?c20 ?k20 ?a21 ?l21 ?c21 ?k21 ?a22 ?l22 ?c22 ?k22 ?a23 ?l23 ?c23 ?k23 ?a24 ?l24 ?c24 ?k24 ?a25 ?l25 ?c25 ?k25 ?a26 ?l26 ?c26 ?k26 ?a27 ?l27 ?c27 ?k27 ?a28 ?l28 ?c28 ?k28 ?a29 ?l29 ?c29 ?k29 ?a30 ?l30 ?c30 ?k30 ?a31 ?l31 ?c31 ?k31 ?y1 ?y2 ?y3 ?y4 ?z1 ?z2 ?z3 ?z4 ?z5 ?z6 ?z7 ?z8 ?z9 ?z10 ?z11 ?z12 ?z13 ?z14 ?z15 ?z16
    (case a1 => k_is)
    (case l1 => k_is)
    (case c1 => k_is)
    (case k1 => k_is)
    (case a2 => k_is)
    (case l2 => k_is)
    (case c2 => k_is)
    (case k2 => k_is)
    (case a3 => k_is)
    (case l3 => k_is)
    (case c3 => k_is)
    (case k3 => k_is)
    (case a4 => k_is)
    (case l4 => k_is)
    (case c4 => k_is)
    (case k4 => k_is)
    (case a5 => k_is)
    (case l5 => k_is)
    (case c5 => k_is)
    (case k5 => k_is)
    (case a6 => k_is)
    (case l6 => k_is)
    (case c6 => k_is)
    (case k6 => k_is)
    (case a7 => k_is)
    (case l7 => k_is)
    (case c7 => k_is)
    (case k7 => k_is)
    (case a8 => k_is)
    (case l8 => k_is)
    (case c8 => k_is)
    (case k8 => k_is)
    (case a9 => k_is)
    (case l9 => k_is)
    (case c9 => k_is)
    (case k9 => k_is)
    (case a10 => k_is)
    (case l10 => k_is)
    (case c10 => k_is)
    (case k10 => k_is)
    (case a11 => k_is)
    (case l11 => k_is)
    (case c11 => k_is)
    (case k11 => k_is)
    (case a12 => k_is)
    (case l12 => k_is)
    (case c12 => k_is)
    (case k12 => k_is)
    (case a13 => k_is)
    (case l13 => k_is)
    (case c13 => k_is)
    (case k13 => k_is)
    (case a14 => k_is)
    (case l14 => k_is)
    (case c14 => k_is)
    (case k14 => k_is)
    (case a15 => k_is)
    (case l15 => k_is)
    (case c15 => k_is)
    (case k15 => k_is)
    (case a16 => k_is)
    (case l16 => k_is)
    (case c16 => k_is)
    (case k16 => k_is)
    (case a17 => k_is)
    (case l17 => k_is)
    (case c17 => k_is)
    (case k17 => k_is)
    (case a18 => k_is)
    (case l18 => k_is)
    (case c18 => k_is)
    (case k18 => k_is)
    (case a19 => k_is)
    (case l19 => k_is)
    (case c19 => k_is)
    (case k19 => k_is)
    (case a20 => k_is)
    (case l20 => k_is)
    (case c20 => k_is)
    (case k20 => k_is)
    (case a21 => k_is)
    (case l21 => k_is)
    (case c21 => k_is)
    (case k21 => k_is)
    (case a22 => k_is)
    (case l22 => k_is)
    (case c22 => k_is)
    (case k22 => k_is)
    (case a23 => k_is)
    (case l23 => k_is)
    (case c23 => k_is)
    (case k23 => k_is)
    (case a24 => k_is)
    (case l24 => k_is)
    (case c24 => k_is)
    (case k24 => k_is)
    (case a25 => k_is)
    (case l25 => k_is)
    (case c25 => k_is)
    (case k25 => k_is)
    (case a26 => k_is)
    (case l26 => k_is)
    (case c26 => k_is)
    (case k26 => k_is)
    (case a27 => k_is)
    (case l27 => k_is)
    (case c27 => k_is)
    (case k27 => k_is)
    (case a28 => k_is)
    (case l28 => k_is)
    (case c28 => k_is)
    (case k28 => k_is)
    (case a29 => k_is)
    (case l29 => k_is)
    (case c29 => k_is)
    (case k29 => k_is)
    (case a30 => k_is)
    (case l30 => k_is)
    (case c30 => k_is)
    (case k30 => k_is)
    (case a31 => k_is)
    (case l31 => k_is)
    (case c31 => k_is)
    (case k31 => k_is)
    (case y1 => k_is)
    (case y2 => k_is)
    (case y3 => k_is)
    (case y4 => k_is)
    (case z1 => k_is)
    (case z2 => k_is)
    (case z3 => k_is)
    (case z4 => k_is)
    (case z5 => k_is)
    (case z6 => k_is)
    (case z7 => k_is)
    (case z8 => k_is)
    (case z9 => k_is)
    (case z10 => k_is)
    (case z11 => k_is)
    (case z12 => k_is)
    (case z13 => k_is)
    (case z14 => k_is)
    (case z15 => k_is)
    (case z16 => k_is)
