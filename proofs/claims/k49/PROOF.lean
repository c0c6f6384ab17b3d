import PyProof.Rows.All
import Wide.All
import OpenK.AllK
import Wide.FinOn
import Lean
import PyProof.EqAt
import PyProof.EqKinds
import PyProof.TupleCall
import PySem.Challenge.RW_skewbooks_k49_no_houses_to_mend
set_option Elab.async false
set_option linter.all false
set_option maxRecDepth 100000
namespace L2
open PySem PySem.Spec PyProof.Rows
noncomputable abbrev Key := Sum Int Str
noncomputable def keyIs : Key → Value → Bool
  | .inl k, v => Value.isInt k v
  | .inr x, v => Value.isStrOf x v
noncomputable def keyH (w : World) : Key → Int
  | .inl k => hashInt k
  | .inr x => hashStr w x
theorem keyIs_shape : ∀ {k : Key} {v : Value}, keyIs k v = true → (∃ i t, k = Sum.inl i ∧ v = Value.int i t) ∨ (∃ x t, k = Sum.inr x ∧ v = Value.str x t)
  | .inl i, v, h => by
    obtain ⟨t, e⟩ := Value.isInt_shape (k := i) (v := v) h
    exact .inl ⟨i, t, rfl, e⟩
  | .inr x, v, h => by
    obtain ⟨t, e⟩ := Value.isStrOf_shape (x := x) (v := v) h
    exact .inr ⟨x, t, rfl, e⟩
theorem keyIs_int (i : Int) (t : Tok) : keyIs (.inl i) (.int i t) = true := by simp [keyIs, Value.isInt]
theorem keyIs_str (x : Str) (t : Tok) : keyIs (.inr x) (.str x t) = true := by simp [keyIs, Value.isStrOf]
theorem key_ll (a b : Int) : decide ((Sum.inl a : Key) = Sum.inl b) = (a == b) := by
  by_cases e : a = b
  · subst e; simp
  · have h : ¬ (Sum.inl a : Key) = Sum.inl b := fun q => e (Sum.inl.inj q)
    rw [decide_eq_false h]
    exact (beq_eq_false_iff_ne.mpr e).symm
theorem key_rr (a b : Str) : decide ((Sum.inr a : Key) = Sum.inr b) = decide (a = b) := by
  by_cases e : a = b
  · subst e; simp
  · have h : ¬ (Sum.inr a : Key) = Sum.inr b := fun q => e (Sum.inr.inj q)
    rw [decide_eq_false h, decide_eq_false e]
theorem key_lr (a : Int) (b : Str) : decide ((Sum.inl a : Key) = Sum.inr b) = false := decide_eq_false (fun q => nomatch q)
theorem key_rl (a : Str) (b : Int) : decide ((Sum.inr a : Key) = Sum.inl b) = false := decide_eq_false (fun q => nomatch q)
noncomputable def mixKind (prog : Program) (w : World) : PySem.KeyKind prog w Key where
  is := keyIs
  hash := keyH w
  inj := fun v a b ha hb => by
    rcases keyIs_shape ha with ⟨i, t, rfl, rfl⟩ | ⟨x, t, rfl, rfl⟩
    · rcases keyIs_shape hb with ⟨j, u, rfl, e⟩ | ⟨y, u, rfl, e⟩
      · injection e with e1 _; rw [e1]
      · exact nomatch e
    · rcases keyIs_shape hb with ⟨j, u, rfl, e⟩ | ⟨y, u, rfl, e⟩
      · exact nomatch e
      · injection e with e1 _; rw [e1]
  byValue := fun k v h => by
    rcases keyIs_shape h with ⟨i, t, rfl, rfl⟩ | ⟨x, t, rfl, rfl⟩ <;> rfl
  pyHash := fun hv h => by
    rcases keyIs_shape hv with ⟨i, t, rfl, rfl⟩ | ⟨x, t, rfl, rfl⟩
    · exact wpAny_pyHash_int h
    · exact wpAny_pyHash_str h
  eqBool := fun hu hv h => by
    rcases keyIs_shape hu with ⟨i, t, rfl, rfl⟩ | ⟨x, t, rfl, rfl⟩
    · rcases keyIs_shape hv with ⟨j, u, rfl, rfl⟩ | ⟨y, u, rfl, rfl⟩
      · rw [key_ll] at h; exact wpAny_eqBool_int h
      · rw [key_lr] at h; exact SeqAt.EqAt.int_str i t y u _ _ _ _ h
    · rcases keyIs_shape hv with ⟨j, u, rfl, rfl⟩ | ⟨y, u, rfl, rfl⟩
      · rw [key_rl] at h; exact SeqAt.EqAt.str_int x t j u _ _ _ _ h
      · rw [key_rr] at h; exact wpAny_eqBool_str h
  «strs» := fun k x t v h => by
    rcases keyIs_shape h with ⟨i, u, rfl, e⟩ | ⟨y, u, rfl, e⟩
    · exact nomatch e
    · injection e with e1 _
      subst e1
      cases v <;> rfl
theorem mixKind_int (prog : Program) (w : World) (i : Int) (t : Tok) : (mixKind prog w).is (.inl i) (.int i t) = true := keyIs_int i t
theorem mixKind_str (prog : Program) (w : World) (x : Str) (t : Tok) : (mixKind prog w).is (.inr x) (.str x t) = true := keyIs_str x t
end L2
namespace L2
open PySem PySem.Spec PyProof.Rows
inductive V where
  | non | bl (b : Bool) | int (i : Int) | str (x : Str) | byt (b : Array UInt8) | flt (b : UInt64) | ref (a : Addr) | ty (n : String)
  deriving DecidableEq
noncomputable def RelV : V → Value → Prop
  | .non, u => u = Value.none
  | .bl b, u => u = Value.bool b
  | .int i, u => ∃ t, u = Value.int i t
  | .str x, u => ∃ t, u = Value.str x t
  | .byt b, u => ∃ t, u = Value.bytes b t
  | .flt b, u => ∃ t, u = Value.float b t
  | .ref a, u => u = Value.ref a
  | .ty n, u => u = Value.type n
noncomputable abbrev Vals : List V → List Value → Prop := Paired RelV
theorem Vals.length {xs : List V} {us : List Value} (r : Vals xs us) : xs.length = us.length := Paired.length r
theorem Vals.get : ∀ {xs : List V} {us : List Value} {i : Nat} {x : V}, Vals xs us → xs[i]? = some x → ∃ u, us[i]? = some u ∧ RelV x u
  | _, _, _, _, .nil, e => by simp at e
  | _, _, 0, _, .cons r _, e => by simp at e; subst e; exact ⟨_, rfl, r⟩
  | _, _, i + 1, x, .cons _ t, e => by
    obtain ⟨u, h1, h2⟩ := Vals.get (i := i) (x := x) t (by simpa using e)
    exact ⟨u, by simpa using h1, h2⟩
theorem Vals.set {x : V} {u : Value} (r : RelV x u) : ∀ {xs : List V} {us : List Value} (i : Nat), Vals xs us → Vals (xs.set i x) (us.set i u)
  | _, _, _, .nil => .nil
  | _, _, 0, .cons _ t => .cons r t
  | _, _, i + 1, .cons q t => .cons q (Vals.set r i t)
theorem Vals.append : ∀ {xs ys : List V} {us ws : List Value}, Vals xs us → Vals ys ws → Vals (xs ++ ys) (us ++ ws)
  | _, _, _, _, .nil, s => s
  | _, _, _, _, .cons r t, s => .cons r (Vals.append t s)
theorem Vals.take : ∀ {xs : List V} {us : List Value} (n : Nat), Vals xs us → Vals (xs.take n) (us.take n)
  | _, _, 0, _ => .nil
  | _, _, _ + 1, .nil => .nil
  | _, _, n + 1, .cons r t => .cons r (Vals.take n t)
theorem Vals.drop : ∀ {xs : List V} {us : List Value} (n : Nat), Vals xs us → Vals (xs.drop n) (us.drop n)
  | _, _, 0, r => r
  | _, _, _ + 1, .nil => .nil
  | _, _, n + 1, .cons _ t => Vals.drop n t
noncomputable def RelO : Option V → Option Value → Prop
  | some v, some u => RelV v u
  | none, none => True
  | _, _ => False
noncomputable def KV {κ : Type} : List (κ × V) → List (κ × Value) → Prop := Paired fun (p : κ × V) (q : κ × Value) => p.1 = q.1 ∧ RelV p.2 q.2
noncomputable def kV : Key → V
  | .inl i => .int i
  | .inr x => .str x
inductive HO where
  /-- a list -/
  | lst (xs : List V)
  /-- a tuple (never changes) -/
  | tup (xs : List V)
  /-- a dict whose keys are ints and texts; one whose keys are tuples of ints and texts (the empty one is both) -/
  | dK (kvs : List (Key × V)) | dT (kvs : List (List Key × V))
  /-- a set of ints: its members, its size -/
  | set (S : Int → Bool) (n : Nat)
  /-- an instance of the class at C, its dict at dx, its attributes -/
  | ins (C dx : Addr) (fs : List (Str × V))
  /-- the dict of the instance at x -/
  | own (x : Addr)
  /-- the dict of an exception -/
  | xd (fs : List (Str × V))
  /-- a bound method, f of x -/
  | met (f x : Addr)
  /-- a range object lo, lo + 1, .. below hi -/
  | rng (lo hi : Int)
  /-- a thing that is known to the object (the script; a dict while a loop walks it): read, never written while it is so -/
  | frz (o : Obj) (u : HO)
  /-- a code object's table -/
  | tbl (ps : Array Value)
  /-- any other thing, by what is true of its one object (a def of one's own: SetO a S n := HO.ext fun h => ..) -/
  | ext (φ : Heap → Prop)
noncomputable abbrev Hp := Addr → Option HO
noncomputable def upd (H : Hp) (a : Addr) (o : HO) : Hp := fun b => if b = a then some o else H b
theorem upd_same {H : Hp} {a : Addr} {o : HO} : upd H a o a = some o := by unfold upd; rw [if_pos rfl]
theorem upd_ne {H : Hp} {a b : Addr} {o : HO} (h : b ≠ a) : upd H a o b = H b := by unfold upd; rw [if_neg h]
theorem ne_of {H : Hp} {a b : Addr} {o u : HO} (h : H a = some o) (h' : H b = some u) (d : o ≠ u) : a ≠ b := by
  intro e; subst e; rw [h] at h'; exact d (Option.some.inj h')
theorem ne_of_none {H : Hp} {a b : Addr} {o : HO} (h : H a = some o) (h' : H b = none) : a ≠ b := by
  intro e; subst e; rw [h] at h'; cases h'
section
variable (P : Program) (w : World)
noncomputable def ObjOk (H : Hp) (h : Heap) (a : Addr) : HO → Prop
  | .lst xs => xs.length ≤ sizeLine ∧ ∃ (its : List Value) (n : Nat), Vals xs its ∧ h.get? a = some { cls := .type "list", data := .seq its.toArray n }
  | .tup xs => xs.length ≤ sizeLine ∧ ∃ its : List Value, Vals xs its ∧ IsTup h a its.toArray
  | .dK kvs => kvs.length ≤ sizeLine ∧ (a == sysModules) = false ∧ ∃ vs, KV kvs vs ∧ h.DictOf (mixKind P w) a vs
  | .dT kvs => kvs.length ≤ sizeLine ∧ (a == sysModules) = false ∧ ∃ xs : List (List Key × Addr × Value),
      Paired (fun (p : List Key × V) (q : List Key × Addr × Value) => p.1 = q.1 ∧ H q.2.1 = some (.tup (p.1.map kV)) ∧ RelV p.2 q.2.2) kvs xs ∧
      ∃ o es ep, h.get? a = some o ∧ o.ExactDict ∧ o.data = .dict es ep ∧ es.toList = xs.map (entryOfKey (tupleKind (mixKind P w))) ∧ (xs.map (·.1)).Nodup
  | .set S n => h.SetOf (intKind P w) a S n
  | .ins C dx fs => H dx = some (.own a) ∧ fs.length ≤ 1000 ∧ dx ≠ a ∧ h.get? a = some (PySem.W.instObj C dx) ∧
      ∃ mA, h.Ns1 dx mA ∧ (∀ f, RelO (fs.lookup f) (mA f)) ∧ PySem.Within mA (fs.map (·.1))
  | .own _ => ∃ o, h.get? a = some o
  | .xd fs => ∃ mA, h.Ns1 a mA ∧ ∀ f, RelO (fs.lookup f) (mA f)
  | .rng lo hi => ∃ t u v, h.get? a = some { cls := .type "range", data := .fields #[.int lo t, .int hi u, .int 1 v] }
  | .frz o u => h.get? a = some o ∧ ObjOk H h a u
  | .tbl ps => h.get? a = some { cls := .none, data := .fields ps }
  | .met f x => h.get? a = some (PySem.W.methodObj (.ref f) (.ref x))
  | .ext φ => φ h ∧ (∃ o, h.get? a = some o) ∧ ∀ h1 h2 : Heap, φ h1 → (∀ o, h1.get? a = some o → h2.get? a = some o) → φ h2
noncomputable def HOk (H : Hp) (h : Heap) : Prop := ∀ a o, H a = some o → ObjOk P w H h a o
end
section
variable {P : Program} {w : World} {H H' : Hp} {h h' : Heap} {a : Addr} {o : HO}
theorem ObjOk.lt (x : ObjOk P w H h a o) : a < h.objs.size := by
  cases o with
  | lst xs => obtain ⟨_, _, _, _, e⟩ := x; exact Heap.lt_size e
  | tup xs => obtain ⟨_, _, _, p⟩ := x; exact p.lt
  | dK kvs => obtain ⟨_, _, _, _, o, _, _, e, _⟩ := x; exact Heap.lt_size e
  | dT kvs => obtain ⟨_, _, _, _, o, _, _, e, _⟩ := x; exact Heap.lt_size e
  | set S n => obtain ⟨o, _, _, _, e, _⟩ := x; exact Heap.lt_size e
  | ins C dx fs => obtain ⟨_, _, _, e, _⟩ := x; exact Heap.lt_size e
  | own y => obtain ⟨_, e⟩ := x; exact Heap.lt_size e
  | xd fs => obtain ⟨_, ⟨_, _, _, e, _⟩, _⟩ := x; exact Heap.lt_size e
  | rng lo hi => obtain ⟨_, _, _, e⟩ := x; exact Heap.lt_size e
  | frz ob u => obtain ⟨e, _⟩ := x; exact Heap.lt_size e
  | tbl ps => exact Heap.lt_size (show h.get? a = some _ from x)
  | met f y => exact Heap.lt_size (show h.get? a = some _ from x)
  | ext φ => obtain ⟨_, ⟨_, e⟩, _⟩ := x; exact Heap.lt_size e
theorem Paired.mapP {α β : Type} {F G : α → β → Prop} : ∀ {l₁ : List α} {l₂ : List β}, Paired F l₁ l₂ → (∀ a b, F a b → G a b) → Paired G l₁ l₂
  | _, _, .nil, _ => .nil
  | _, _, .cons r t, f => .cons (f _ _ r) (Paired.mapP t f)
theorem ObjOk.stay (x : ObjOk P w H h a o) (k : ∀ b u, (b = a ∨ H b = some (.own a)) → h.get? b = some u → h'.get? b = some u)
    (ho : ∀ b, H b = some (.own a) → H' b = some (.own a)) (ht : ∀ b xs, H b = some (.tup xs) → H' b = some (.tup xs)) : ObjOk P w H' h' a o := by
  induction o with
  | lst xs => obtain ⟨z, its, n, r, e⟩ := x; exact ⟨z, its, n, r, k _ _ (.inl rfl) e⟩
  | tup xs => obtain ⟨z, its, r, ob, e, c⟩ := x; exact ⟨z, its, r, ob, k _ _ (.inl rfl) e, c⟩
  | dK kvs => obtain ⟨z, y, vs, r, ob, es, ep, e, c⟩ := x; exact ⟨z, y, vs, r, ob, es, ep, k _ _ (.inl rfl) e, c⟩
  | dT kvs =>
    obtain ⟨z, y, xs, r, ob, es, ep, e, c⟩ := x
    exact ⟨z, y, xs, Paired.mapP r fun p q z => ⟨z.1, ht _ _ z.2.1, z.2.2⟩, ob, es, ep, k _ _ (.inl rfl) e, c⟩
  | set S n => obtain ⟨ob, es, ep, t, e, c⟩ := x; exact ⟨ob, es, ep, t, k _ _ (.inl rfl) e, c⟩
  | ins C dx fs =>
    obtain ⟨d, z, ne, e, mA, ⟨od, es, ep, e2, c⟩, r⟩ := x
    exact ⟨ho _ d, z, ne, k _ _ (.inl rfl) e, mA, ⟨od, es, ep, k _ _ (.inr d) e2, c⟩, r⟩
  | own y => obtain ⟨ob, e⟩ := x; exact ⟨ob, k _ _ (.inl rfl) e⟩
  | xd fs => obtain ⟨mA, ⟨od, es, ep, e, c⟩, r⟩ := x; exact ⟨mA, ⟨od, es, ep, k _ _ (.inl rfl) e, c⟩, r⟩
  | rng lo hi => obtain ⟨t, u, v, e⟩ := x; exact ⟨t, u, v, k _ _ (.inl rfl) e⟩
  | frz ob u ih => obtain ⟨e, q⟩ := x; exact ⟨k _ _ (.inl rfl) e, ih q⟩
  | tbl ps =>
    have e : h.get? a = some { cls := .none, data := .fields ps } := x
    show h'.get? a = some { cls := .none, data := .fields ps }
    exact k a _ (.inl rfl) e
  | met f y =>
    have e : h.get? a = some (PySem.W.methodObj (.ref f) (.ref y)) := x
    show h'.get? a = some (PySem.W.methodObj (.ref f) (.ref y))
    exact k a _ (.inl rfl) e
  | ext φ => obtain ⟨p, ⟨o, e⟩, st⟩ := x; exact ⟨st _ _ p fun o q => k _ _ (.inl rfl) q, ⟨o, k _ _ (.inl rfl) e⟩, st⟩
theorem HOk.lt (x : HOk P w H h) (e : H a = some o) : a < h.objs.size := (x a o e).lt
theorem HOk.fresh (x : HOk P w H h) (e : h.objs.size ≤ a) : H a = none := by
  cases q : H a with
  | none => rfl
  | some u => exact absurd (Nat.lt_of_lt_of_le (x.lt q) e) (Nat.lt_irrefl _)
theorem HOk.kept (x : HOk P w H h) (k : ∀ b u, h.get? b = some u → h'.get? b = some u) : HOk P w H h' := fun a o e =>
  (x a o e).stay (fun b u _ q => k b u q) (fun _ q => q) fun _ _ q => q
theorem HOk.laid (x : HOk P w H h) (k : ∀ b u, h.get? b = some u → h'.get? b = some u) (hp : h.objs.size ≤ a) (new : ObjOk P w (upd H a o) h' a o) : HOk P w (upd H a o) h' := fun b u e => by
  have hn := x.fresh hp
  by_cases hb : b = a
  · subst hb; rw [upd_same] at e; cases e; exact new
  · rw [upd_ne hb] at e
    exact (x b u e).stay (fun c v _ q => k c v q) (fun c q => by rw [upd_ne (ne_of_none q hn)]; exact q) fun c xs q => by rw [upd_ne (ne_of_none q hn)]; exact q
end
noncomputable def Rd (H : Hp) (a : Addr) (u : HO) : Prop := H a = some u ∨ ∃ o, H a = some (.frz o u)
theorem Rd.ok {P : Program} {w : World} {H : Hp} {h : Heap} {a : Addr} {u : HO} (r : Rd H a u) (x : HOk P w H h) : ObjOk P w H h a u := by
  rcases r with r | ⟨o, r⟩
  · exact x a u r
  · obtain ⟨_, q⟩ := x a _ r
    exact q
noncomputable def Mut : Option HO → Prop
  | some (.lst _) => True
  | some (.dK _) => True
  | some (.dT _) => True
  | some (.set _ _) => True
  | some (.ins _ _ _) => True
  | some (.ext _) => True
  | _ => False
section
variable {P : Program} {w : World} {H : Hp} {h h' : Heap} {x e : Addr} {o' : HO}
theorem HOk.write (ok : HOk P w H h) (mu : Mut (H x)) (he : e = x ∨ H e = some (.own x)) (k : ∀ b u, b ≠ e → h.get? b = some u → h'.get? b = some u) (heo : ∃ u, h'.get? e = some u)
    (new : ObjOk P w (upd H x o') h' x o') : HOk P w (upd H x o') h' := fun b u q => by
  have nown : ∀ c y, H c = some (.own y) → c ≠ x := fun c y r z => by subst z; rw [r] at mu; exact mu
  have ntup : ∀ c xs, H c = some (.tup xs) → c ≠ x := fun c xs r z => by subst z; rw [r] at mu; exact mu
  by_cases hb : b = x
  · subst hb; rw [upd_same] at q; cases q; exact new
  · rw [upd_ne hb] at q
    by_cases hbe : b = e
    · have q' : H b = some (.own x) := by
        rcases he with z | z
        · exact absurd (hbe.trans z) hb
        · rw [hbe]; exact z
      rw [q] at q'; cases q'
      obtain ⟨v, hv⟩ := heo
      exact ⟨v, by rw [hbe]; exact hv⟩
    · refine (ok b u q).stay (fun c v hc r => k c v ?_ r) (fun c r => by rw [upd_ne (nown c b r)]; exact r) fun c xs r => by rw [upd_ne (ntup c xs r)]; exact r
      rcases hc with rfl | hc
      · exact hbe
      · rintro rfl
        rcases he with z | z
        · exact nown c b hc z
        · rw [hc] at z; cases z; exact hb rfl
end
structure Un (fs ex : List Addr) (H H' : Hp) (h h' : Heap) : Prop where
  keep : ∀ b o, h.get? b = some o → H b = none → b ∉ fs → b ∉ ex → h'.get? b = some o
  slot : ∀ b o, h.get? b = some o → H b = none → b ∈ fs → b ∉ ex → ∃ sl, h'.get? b = some { o with slots := sl }
  free : ∀ b o, h.get? b = some o → H b = none → b ∉ ex → H' b = none
  there : ∀ b o, h.get? b = some o → b ∉ ex → ∃ o', h'.get? b = some o'
  tups : ∀ b xs, H b = some (.tup xs) → H' b = some (.tup xs)
  frzs : ∀ b o u, H b = some (.frz o u) → H' b = some (.frz o u)
  tbls : ∀ b ps, H b = some (.tbl ps) → ∃ more, H' b = some (.tbl (ps ++ more))
section
variable {fs fs' ex ex' : List Addr} {H H1 H2 : Hp} {h h1 h2 h' : Heap} {a x e : Addr} {o : HO}
theorem Un.any (u : Un fs ex H H1 h h1) {b : Addr} {ob : Obj} (q : h.get? b = some ob) (n : H b = none) (hx : b ∉ ex) : ∃ sl, h1.get? b = some { ob with slots := sl } := by
  by_cases hb : b ∈ fs
  · exact u.slot b ob q n hb hx
  · exact ⟨ob.slots, u.keep b ob q n hb hx⟩
theorem Un.kept (k : ∀ b u, h.get? b = some u → h'.get? b = some u) : Un fs ex H H h h' :=
  ⟨fun b ob q _ _ _ => k b ob q, fun b ob q _ _ _ => ⟨ob.slots, k b ob q⟩, fun _ _ _ n _ => n, fun b ob q _ => ⟨ob, k b ob q⟩, fun _ _ q => q, fun _ _ _ q => q, fun _ ps q => ⟨#[], by rw [q]; simp⟩⟩
theorem Un.refl : Un fs ex H H h h := Un.kept fun _ _ q => q
theorem Un.laid (k : ∀ b u, h.get? b = some u → h'.get? b = some u) (hp : h.objs.size ≤ a) (hn : H a = none) : Un fs ex H (upd H a o) h h' where
  keep := fun b u q _ _ _ => k b u q
  slot := fun b u q _ _ _ => ⟨u.slots, k b u q⟩
  free := fun b u q n _ => by rw [upd_ne (Nat.ne_of_lt (Nat.lt_of_lt_of_le (Heap.lt_size q) hp))]; exact n
  there := fun b u q _ => ⟨u, k b u q⟩
  tups := fun b xs q => by rw [upd_ne (ne_of_none q hn)]; exact q
  frzs := fun b u xs q => by rw [upd_ne (ne_of_none q hn)]; exact q
  tbls := fun b ps q => ⟨#[], by rw [upd_ne (ne_of_none q hn), q]; simp⟩
theorem Un.write (mu : Mut (H x)) (he : e = x ∨ H e = some (.own x)) (k : ∀ b u, b ≠ e → h.get? b = some u → h'.get? b = some u) (heo : ∃ u, h'.get? e = some u) : Un fs ex H (upd H x o) h h' := by
  have hx : ∀ b, H b = none → b ≠ x := fun b n z => by subst z; rw [n] at mu; exact mu
  have hb : ∀ b, H b = none → b ≠ e := fun b n z => by
    subst z
    rcases he with r | r
    · exact hx b n r
    · rw [n] at r; cases r
  have hm : ∀ b u, H b = some u → ¬ Mut (some u) → b ≠ x := fun b u q nm z => by subst z; rw [q] at mu; exact nm mu
  refine ⟨fun b u q n _ _ => k b u (hb b n) q, fun b u q n _ _ => ⟨u.slots, k b u (hb b n) q⟩, fun b u q n _ => by rw [upd_ne (hx b n)]; exact n, fun b u q _ => ?_,
    fun b xs q => by rw [upd_ne (hm b _ q fun z => z)]; exact q, fun b u xs q => by rw [upd_ne (hm b _ q fun z => z)]; exact q, fun b ps q => ⟨#[], by rw [upd_ne (hm b _ q fun z => z), q]; simp⟩⟩
  by_cases hbe : b = e
  · subst hbe; exact heo
  · exact ⟨u, k b u hbe q⟩
end
noncomputable def trk (h : Heap) (H : Hp) : List Addr := (List.range h.objs.size).filter fun a => (H a).isSome
noncomputable def hidT (h : Heap) (H : Hp) : Heap := PySem.W.hideAll h (trk h H)
theorem hidT_size (h : Heap) (H : Hp) : (hidT h H).objs.size = h.objs.size := PySem.W.hideAll_size _ _
theorem hidT_get {h : Heap} {H : Hp} {b : Addr} {o : Obj} (e : h.get? b = some o) (n : H b = none) : (hidT h H).get? b = some o :=
  PySem.W.hideAll_get _ e fun hm => by
    have q : (H b).isSome = true := (List.mem_filter.mp hm).2
    rw [n] at q; simp at q
theorem of_hidT {h : Heap} {H : Hp} {b : Addr} {o : Obj} (e : (hidT h H).get? b = some o) : h.get? b = some o ∧ H b = none := by
  have e' : h.get? b = some o := PySem.W.of_hideAll (trk h H) e
  refine ⟨e', ?_⟩
  cases q : H b with
  | none => rfl
  | some x =>
    have hm : b ∈ trk h H := List.mem_filter.mpr ⟨List.mem_range.mpr (Heap.lt_size e'), by simp [q]⟩
    have z : (hidT h H).get? b = none := PySem.W.hideAll_none (trk h H) hm
    rw [z] at e; cases e
end L2
namespace L2
open PySem PySem.Spec PyProof.Rows
structure Mod (K : PySem.W.Frag) (mg : Str → Option Value) (base : Heap) : Prop where
  kin : K.In base
  glob : base.Ns mainGlobals mg
  blt : ∃ mb, base.Ns builtinsNs mb ∧ ∀ x : Str, x ≠ "__name__" → mb x = bootBuiltins x
  nolimit : base.NoLimit
structure Cx where
  prog : Program
  w : World
  K : PySem.W.Frag
  mg : Str → Option Value
  base : Heap
  A : Around
  N : List Str
  s₀ : Shared
  H₀ : Hp
  env : Env
  outer : List Env
  stack : List Env
  ex : List Addr
  fn : Str → Bool
  calm : Bool
  pn : List (Addr × Obj)
  xe : Value → Shared → Prop
noncomputable def frs (l : List Env) : List Addr := l.filterMap (·.frame)
noncomputable abbrev Cx.fs (X : Cx) : List Addr := frs X.outer
noncomputable def Vis (sc : Scope) (x : Str) : Prop := sc.names.lookup x = some .local ∨ sc.names.lookup x = some .cell ∨ sc.names.lookup x = some .free
noncomputable def Loc (sc : Scope) (x : Str) : Prop := sc.names.lookup x = some .local ∨ sc.names.lookup x = some .cell
noncomputable def Look (env : Env) (h : Heap) (m : Str → Option Value) (x : Str) (u : Value) : Prop :=
  (env.kindOf x = some .local ∧ m x = some u) ∨ ((env.kindOf x = some .cell ∨ env.kindOf x = some .free) ∧ ∃ c, env.cells.lookup x = some c ∧ h.IsCell c (some u))
structure Cx.Ok (X : Cx) : Prop where
  mod : Mod X.K X.mg X.base
  kind : X.env.scope.kind = .function
  glob : X.env.globals = mainGlobals
  blt : X.env.builtins = builtinsNs
  above : X.s₀.heap.objs.size ≤ X.env.locals
  inj : ∀ x y c, X.env.cells.lookup x = some c → X.env.cells.lookup y = some c → x = y
  has : ∀ x, (X.env.kindOf x = some .cell ∨ X.env.kindOf x = some .free) → ∃ c, X.env.cells.lookup x = some c
  cab : ∀ x c, X.fn x = true → X.env.cells.lookup x = some c → X.s₀.heap.objs.size ≤ c
  hd : X.calm = true → X.A.handled = none
  frames : X.A.frames = some X.stack
  stk : X.stack = X.outer ∨ (X.stack = X.env :: X.outer ∧ X.env.frame = some X.env.locals)
  exf : ∀ b ∈ X.ex, b ≠ X.env.locals ∧ ∀ x c, X.env.cells.lookup x = some c → c ≠ b
  bs : ∀ b o, X.base.get? b = some o → X.s₀.heap.get? b = some o ∧ X.H₀ b = none
  bsz : X.base.objs.size ≤ X.s₀.heap.objs.size
  noex : ∀ b o, X.base.get? b = some o → b ∉ X.ex
  exfs : ∀ b ∈ X.ex, b ∉ X.fs
  funs : X.s₀.heap.FunFrames X.base X.outer
  frf : ∀ b ∈ X.fs, X.H₀ b = none
structure Inv (X : Cx) (pins : List (Addr × Obj)) (σ : List (Option V)) (H : Hp) (s : Shared) : Prop where
  ok : X.Ok
  os : s.os = X.s₀.os
  bare : AllBare s.gens
  base : Un X.fs X.ex X.H₀ H X.s₀.heap s.heap
  loc : ∃ m, s.heap.Ns X.env.locals m ∧ ∀ (i : Nat) (x : Str) (v : V), X.N[i]? = some x → σ[i]? = some (some v) → Vis X.env.scope x → ∃ u, RelV v u ∧ Look X.env s.heap m x u
  cell : ∀ x c, X.env.cells.lookup x = some c → ∃ v, s.heap.IsCell c v
  free : H X.env.locals = none
  freeC : ∀ x c, X.env.cells.lookup x = some c → H c = none
  pin : ∀ p ∈ X.pn ++ pins, s.heap.get? p.1 = some p.2 ∧ H p.1 = none ∧ p.1 ≠ X.env.locals ∧ p.1 ∉ X.fs ∧ ∀ v, p.2.data ≠ .cell v
  hok : HOk X.prog X.w H s.heap
  len : σ.length = X.N.length
section
variable {X : Cx} {pins : List (Addr × Obj)} {σ : List (Option V)} {H H' : Hp} {s : Shared} {h' : Heap}
theorem Cx.Ok.nofr (ok : X.Ok) {b : Addr} {o : Obj} (e : X.base.get? b = some o) : b ∉ X.fs := fun hb => by
  have := (ok.funs.mem hb).1
  rw [e] at this; cases this
theorem Inv.bs (I : Inv X pins σ H s) : ∀ b o, X.base.get? b = some o → s.heap.get? b = some o ∧ H b = none := fun b o e =>
  ⟨I.base.keep b o (I.ok.bs b o e).1 (I.ok.bs b o e).2 (I.ok.nofr e) (I.ok.noex b o e), I.base.free b o (I.ok.bs b o e).1 (I.ok.bs b o e).2 (I.ok.noex b o e)⟩
theorem Inv.bk (I : Inv X pins σ H s) : ∀ b o, X.base.get? b = some o → s.heap.get? b = some o := fun b o e => (I.bs b o e).1
theorem Inv.mod (I : Inv X pins σ H s) : Mod X.K X.mg X.base := I.ok.mod
theorem Inv.kIn (I : Inv X pins σ H s) : X.K.In s.heap := I.ok.mod.kin.keeps I.bk
theorem Inv.lt (I : Inv X pins σ H s) : X.env.locals < s.heap.objs.size := let ⟨_, hn, _⟩ := I.loc; hn.lt
theorem Inv.sz (I : Inv X pins σ H s) : X.s₀.heap.objs.size ≤ s.heap.objs.size := Nat.le_trans I.ok.above (Nat.le_of_lt I.lt)
theorem Inv.nofs (I : Inv X pins σ H s) {a : Addr} (h : s.heap.objs.size ≤ a) : a ∉ X.fs := fun hb => by
  obtain ⟨_, o, ho, _⟩ := I.ok.funs.mem hb
  exact absurd (Nat.lt_of_lt_of_le (Heap.lt_size ho) (Nat.le_trans I.sz h)) (Nat.lt_irrefl _)
theorem Inv.cne (I : Inv X pins σ H s) : ∀ x c, X.env.cells.lookup x = some c → c ≠ X.env.locals := fun x c e z => by
  obtain ⟨v, o, ho, hd⟩ := I.cell x c e
  obtain ⟨m, ⟨o', es, ep, ho', hd', _⟩, _⟩ := I.loc
  rw [z, ho'] at ho; cases ho; rw [hd'] at hd; cases hd
theorem Inv.funs (I : Inv X pins σ H s) : s.heap.FunFrames X.base X.outer := by
  have all : ∀ (l : List Env), (∀ b ∈ frs l, b ∈ X.fs) → X.s₀.heap.FunFrames X.base l → s.heap.FunFrames X.base l := by
    intro l
    induction l with
    | nil => intro _ _; trivial
    | cons env r ih =>
      intro hs hl
      obtain ⟨hk, ⟨L, o, hf, hn, ho, hd⟩, hr⟩ := hl
      have hL : L ∈ X.fs := hs L (by unfold frs; rw [List.filterMap_cons, hf]; exact List.mem_cons_self)
      obtain ⟨sl, e⟩ := I.base.slot L o ho (I.ok.frf L hL) hL fun z => I.ok.exfs L z hL
      exact ⟨hk, ⟨L, _, hf, hn, e, hd⟩, ih (fun b hb => hs b (by unfold frs; rw [List.filterMap_cons, hf]; exact List.mem_cons_of_mem _ hb)) hr⟩
  exact all X.outer (fun _ hb => hb) I.ok.funs
theorem Inv.stack (I : Inv X pins σ H s) : s.heap.FunFrames X.base X.stack := by
  rcases I.ok.stk with e | ⟨e, hf⟩
  · rw [e]; exact I.funs
  · rw [e]
    obtain ⟨m, hn, _⟩ := I.loc
    refine .cons (by rw [I.ok.kind]; decide) hf hn ?_ I.funs
    exact Heap.get?_none_of_le (Nat.le_trans I.ok.bsz I.ok.above)
theorem Inv.stkSub (I : Inv X pins σ H s) : ∀ b ∈ frs X.stack, b ∈ X.env.locals :: X.fs := fun b hb => by
  rcases I.ok.stk with e | ⟨e, hf⟩
  · rw [e] at hb; exact List.mem_cons_of_mem _ hb
  · rw [e] at hb
    unfold frs at hb
    rw [List.filterMap_cons, hf] at hb
    exact hb
theorem Inv.stkFree (I : Inv X pins σ H s) : ∀ b ∈ frs X.stack, H b = none := fun b hb => by
  rcases List.mem_cons.mp (I.stkSub b hb) with e | hb
  · rw [e]; exact I.free
  · obtain ⟨_, o, ho, _⟩ := I.ok.funs.mem hb
    exact I.base.free b o ho (I.ok.frf b hb) fun z => I.ok.exfs b z hb
theorem Inv.step {g' : Array GenState} {t' : Nat} {d' : Drawn} {ch : List Addr} (I : Inv X pins σ H s)
    (hch : ∀ b ∈ ch, (b ∈ X.ex ∨ X.s₀.heap.objs.size ≤ b) ∧ b ≠ X.env.locals ∧ (∀ x c, X.env.cells.lookup x = some c → c ≠ b) ∧ ∀ p ∈ X.pn ++ pins, p.1 ≠ b)
    (keep : ∀ b o, b ≠ X.env.locals → b ∉ X.fs → b ∉ ch → s.heap.get? b = some o → H b = none → h'.get? b = some o)
    (slot : ∀ b o, b ≠ X.env.locals → b ∈ X.fs → b ∉ ch → s.heap.get? b = some o → H b = none → ∃ sl, h'.get? b = some { o with slots := sl }) (free : ∀ b o, b ∉ ch → s.heap.get? b = some o → H b = none → H' b = none)
    (there : ∀ b o, b ∉ ch → s.heap.get? b = some o → ∃ o', h'.get? b = some o')
    (tups : ∀ b xs, H b = some (.tup xs) → H' b = some (.tup xs)) (frzs : ∀ b o u, H b = some (.frz o u) → H' b = some (.frz o u)) (tbls : ∀ b ps, H b = some (.tbl ps) → ∃ more, H' b = some (.tbl (ps ++ more)))
    (ns : ∀ m, s.heap.Ns X.env.locals m → h'.Ns X.env.locals m) (hok : HOk X.prog X.w H' h') (hg : AllBare g') :
    Inv X pins σ H' { s with heap := h', gens := g', drawn := d', toks := t' } := by
  have neL : ∀ b o, X.s₀.heap.get? b = some o → b ≠ X.env.locals := fun b o e => Nat.ne_of_lt (Nat.lt_of_lt_of_le (Heap.lt_size e) I.ok.above)
  have neC : ∀ b o, X.s₀.heap.get? b = some o → b ∉ X.ex → b ∉ ch := fun b o e hx hb => by
    rcases (hch b hb).1 with z | z
    · exact hx z
    · exact absurd (Nat.lt_of_lt_of_le (Heap.lt_size e) z) (Nat.lt_irrefl _)
  have cellK : ∀ x c, X.env.cells.lookup x = some c → ∀ v, s.heap.IsCell c v → h'.IsCell c v := fun x c e v ⟨o, ho, hd⟩ => by
    have nch : c ∉ ch := fun z => (hch c z).2.2.1 x c e rfl
    by_cases hc : c ∈ X.fs
    · obtain ⟨sl, q⟩ := slot c o (I.cne x c e) hc nch ho (I.freeC x c e)
      exact ⟨_, q, hd⟩
    · exact ⟨o, keep c o (I.cne x c e) hc nch ho (I.freeC x c e), hd⟩
  refine ⟨I.ok, I.os, hg, ⟨fun b o e n hb hx => ?_, fun b o e n hb hx => ?_, fun b o e n hx => ?_, fun b o e hx => ?_, fun b xs e => tups b xs (I.base.tups b xs e), fun b o xs e => frzs b o xs (I.base.frzs b o xs e), fun b ps e => ?_⟩, ?_, fun x c e => ?_, ?_, fun x c e => ?_, fun p hp => ?_, hok, I.len⟩
  · exact keep b o (neL b o e) hb (neC b o e hx) (I.base.keep b o e n hb hx) (I.base.free b o e n hx)
  · obtain ⟨sl, e1⟩ := I.base.slot b o e n hb hx
    obtain ⟨sl', e2⟩ := slot b _ (neL b o e) hb (neC b o e hx) e1 (I.base.free b o e n hx)
    exact ⟨sl', e2⟩
  · obtain ⟨o', e1⟩ := I.base.there b o e hx
    exact free b o' (neC b o e hx) e1 (I.base.free b o e n hx)
  · obtain ⟨o', e1⟩ := I.base.there b o e hx
    exact there b o' (neC b o e hx) e1
  · obtain ⟨m1, e1⟩ := I.base.tbls b ps e
    obtain ⟨m2, e2⟩ := tbls b _ e1
    exact ⟨m1 ++ m2, by rw [e2, Array.append_assoc]⟩
  · obtain ⟨m, hn, hl⟩ := I.loc
    refine ⟨m, ns m hn, fun i x v e1 e2 e3 => ?_⟩
    obtain ⟨u, r, l⟩ := hl i x v e1 e2 e3
    refine ⟨u, r, ?_⟩
    rcases l with l | ⟨k, c, e, z⟩
    · exact .inl l
    · exact .inr ⟨k, c, e, cellK x c e _ z⟩
  · obtain ⟨v, z⟩ := I.cell x c e
    exact ⟨v, cellK x c e v z⟩
  · obtain ⟨m, ⟨o, _, _, ho, _⟩, _⟩ := I.loc
    exact free _ o (fun z => (hch _ z).2.1 rfl) ho I.free
  · obtain ⟨v, o, ho, hd⟩ := I.cell x c e
    exact free c o (fun z => (hch c z).2.2.1 x c e rfl) ho (I.freeC x c e)
  · obtain ⟨e, n, ne, nf, d⟩ := I.pin p hp
    have nch : p.1 ∉ ch := fun z => (hch p.1 z).2.2.2 p hp rfl
    exact ⟨keep p.1 p.2 ne nf nch e n, free p.1 p.2 nch e n, ne, nf, d⟩
theorem Inv.un {t' : Nat} (I : Inv X pins σ H s) (u : Un X.fs [] H H' s.heap h') (hok : HOk X.prog X.w H' h') : Inv X pins σ H' { s with heap := h', toks := t' } := by
  obtain ⟨m, ⟨o, es, ep, ho, r⟩, _⟩ := id I.loc
  obtain ⟨sl, hL⟩ := u.any ho I.free (by simp)
  exact I.step (g' := s.gens) (d' := s.drawn) (ch := []) (fun _ z => nomatch z) (fun b o _ hb _ e n => u.keep b o e n hb (by simp)) (fun b o _ hb _ e n => u.slot b o e n hb (by simp)) (fun b o _ e n => u.free b o e n (by simp)) (fun b o _ e => u.there b o e (by simp)) u.tups u.frzs u.tbls (fun m' hm => by
    obtain ⟨o', es', ep', ho', r'⟩ := hm
    rw [ho] at ho'; cases ho'
    exact ⟨_, es', ep', hL, r'⟩) hok I.bare
theorem Inv.call {g' : Array GenState} {t' : Nat} {d' : Drawn} {ch : List Addr} (I : Inv X pins σ H s) (u : Un (frs X.stack) ch H H' s.heap h') (hok : HOk X.prog X.w H' h') (hg : AllBare g')
    (hch : ∀ b ∈ ch, (b ∈ X.ex ∨ X.s₀.heap.objs.size ≤ b) ∧ b ≠ X.env.locals ∧ (∀ x c, X.env.cells.lookup x = some c → c ≠ b) ∧ ∀ p ∈ X.pn ++ pins, p.1 ≠ b) :
    Inv X pins σ H' { s with heap := h', gens := g', drawn := d', toks := t' } := by
  obtain ⟨m, ⟨o, es, ep, ho, r⟩, _⟩ := id I.loc
  obtain ⟨sl, hL⟩ := u.any ho I.free fun z => (hch _ z).2.1 rfl
  exact I.step (ch := ch) hch (fun b o hL hb hc e n => u.keep b o e n (fun z => (List.mem_cons.mp (I.stkSub b z)).elim hL hb) hc) (fun b o _ _ hc e n => u.any e n hc) (fun b o hc e n => u.free b o e n hc) (fun b o hc e => u.there b o e hc) u.tups u.frzs u.tbls (fun m' hm => by
    obtain ⟨o', es', ep', ho', r'⟩ := hm
    rw [ho] at ho'; cases ho'
    exact ⟨_, es', ep', hL, r'⟩) hok hg
theorem Inv.turned {t' : Nat} {it : Addr} (I : Inv X pins σ H s) (k : ∀ b o, b ≠ it → s.heap.get? b = some o → h'.get? b = some o) (hn : H it = none) (hL : it ≠ X.env.locals)
    (h1 : it ∈ X.ex ∨ X.s₀.heap.objs.size ≤ it) (h2 : ∀ x c, X.env.cells.lookup x = some c → c ≠ it) (h3 : ∀ p ∈ X.pn ++ pins, p.1 ≠ it) : Inv X pins σ H { s with heap := h', toks := t' } := by
  have nit : ∀ b u, H b = some u → b ≠ it := fun b u e z => by rw [z, hn] at e; cases e
  refine I.step (g' := s.gens) (d' := s.drawn) (ch := [it]) (fun b hb => ?_) (fun b o _ _ hc e _ => k b o (fun z => hc (by simp [z])) e) (fun b o _ _ hc e _ => ⟨o.slots, k b o (fun z => hc (by simp [z])) e⟩) (fun _ _ _ _ n => n)
    (fun b o hc e => ⟨o, k b o (fun z => hc (by simp [z])) e⟩) (fun _ _ e => e) (fun _ _ _ e => e) (fun b ps e => ⟨#[], by rw [e]; simp⟩) (fun m hm => ?_) (fun b u e => ?_) I.bare
  · have e : b = it := by simpa using hb
    subst e
    exact ⟨h1, hL, h2, h3⟩
  · obtain ⟨o, es, ep, ho, r⟩ := hm
    exact ⟨o, es, ep, k _ o (Ne.symm hL) ho, r⟩
  · refine (I.hok b u e).stay (fun c v hc q => k c v ?_ q) (fun _ q => q) fun _ _ q => q
    rcases hc with z | z
    · rw [z]; exact nit b u e
    · exact nit c _ z
theorem Inv.tok (I : Inv X pins σ H s) (t : Nat) : Inv X pins σ H { s with toks := t } := I.un (h' := s.heap) (t' := t) Un.refl I.hok
theorem Inv.kept {t' : Nat} (I : Inv X pins σ H s) (k : ∀ b u, s.heap.get? b = some u → h'.get? b = some u) : Inv X pins σ H { s with heap := h', toks := t' } := I.un (Un.kept k) (I.hok.kept k)
theorem Inv.laid {a : Addr} {o : HO} {t' : Nat} (I : Inv X pins σ H s) (k : ∀ b u, s.heap.get? b = some u → h'.get? b = some u) (hp : s.heap.objs.size ≤ a) (new : ObjOk X.prog X.w (upd H a o) h' a o) :
    Inv X pins σ (upd H a o) { s with heap := h', toks := t' } := I.un (Un.laid k hp (I.hok.fresh hp)) (I.hok.laid k hp new)
theorem Inv.write {x e : Addr} {o : HO} {t' : Nat} (I : Inv X pins σ H s) (mu : Mut (H x)) (he : e = x ∨ H e = some (.own x)) (k : ∀ b u, b ≠ e → s.heap.get? b = some u → h'.get? b = some u) (heo : ∃ u, h'.get? e = some u)
    (new : ObjOk X.prog X.w (upd H x o) h' x o) : Inv X pins σ (upd H x o) { s with heap := h', toks := t' } := I.un (Un.write mu he k heo) (I.hok.write mu he k heo new)
theorem Inv.pins_of {pins' : List (Addr × Obj)} (I : Inv X pins σ H s) (h : ∀ p ∈ pins', s.heap.get? p.1 = some p.2 ∧ H p.1 = none ∧ p.1 ≠ X.env.locals ∧ p.1 ∉ X.fs ∧ ∀ v, p.2.data ≠ .cell v) : Inv X pins' σ H s :=
  ⟨I.ok, I.os, I.bare, I.base, I.loc, I.cell, I.free, I.freeC, fun p hp => (List.mem_append.mp hp).elim (fun z => I.pin p (List.mem_append_left _ z)) (h p), I.hok, I.len⟩
theorem nodup_ix {N : List Str} (hN : N.Nodup) {i j : Nat} {x : Str} (a : N[i]? = some x) (b : N[j]? = some x) : i = j := by
  obtain ⟨h1, e1⟩ := List.getElem?_eq_some_iff.mp a
  obtain ⟨h2, e2⟩ := List.getElem?_eq_some_iff.mp b
  exact (List.getElem_inj hN).mp (e1.trans e2.symm)
theorem store_ok2 {M : Model} {A : Around} {E : Value → Shared → Prop} {i : Nat} {x : Str} {v : V} {u : Value} {Q : Unit → Shared → Prop} (I : Inv X pins σ H s) (hN : X.N.Nodup) (hi : X.N[i]? = some x) (hx : Loc X.env.scope x) (r : RelV v u)
    (h : ∀ s', Inv X pins (σ.set i (some v)) H s' → (∃ a, Heap.SameBut a s.heap s'.heap ∧ (a = X.env.locals ∨ X.env.cells.lookup x = some a)) → Q () s') (hf : X.fn x = true ∨ X.env.scope.names.lookup x = some .local := by first | exact .inl rfl | exact .inr rfl | assumption) : wpAny M A (storeName X.env x u) Q E s := by
  obtain ⟨m, hn, hl⟩ := id I.loc
  have hcls : (X.env.scope.kind == .class || (X.env.scope.kind == .module && X.env.locals != X.env.globals)) = false := by rw [I.ok.kind]; rfl
  have hiσ : i < σ.length := by rw [I.len]; exact (List.getElem?_eq_some_iff.mp hi).1
  have cne := I.cne
  have tracked : ∀ {a : Addr} {h' : Heap}, (∃ o, s.heap.get? a = some o ∧ H a = none) → Heap.SameBut a s.heap h' → HOk X.prog X.w H h' := fun {a h'} ha hs b ob e => by
    obtain ⟨_, _, hfree⟩ := ha
    refine (I.hok b ob e).stay (fun c w' hc q => (hs.2 c ?_).trans q) (fun _ q => q) fun _ _ q => q
    rintro rfl
    rcases hc with rfl | hc
    · rw [hfree] at e; cases e
    · rw [hfree] at hc; cases hc
  rcases hx with hk | hk
  · refine wpAny_storeName_local hk hn (fun h' hn' hs => ?_) hcls
    obtain ⟨oL, _, _, hoL, _⟩ := id hn
    refine h _ ⟨I.ok, I.os, I.bare, ⟨fun b o e n hb hx => ?_, fun b o e n hb hx => ?_, I.base.free, fun b o e hx => ?_, I.base.tups, I.base.frzs, I.base.tbls⟩, ⟨_, hn', fun j y v' e1 e2 e3 => ?_⟩, fun y c e => ?_, I.free, I.freeC, fun p hp => ?_, tracked ⟨oL, hoL, I.free⟩ hs, by simpa using I.len⟩ ⟨_, hs, .inl rfl⟩
    · exact (hs.2 b (Nat.ne_of_lt (Nat.lt_of_lt_of_le (Heap.lt_size e) I.ok.above))).trans (I.base.keep b o e n hb hx)
    · obtain ⟨sl, e1⟩ := I.base.slot b o e n hb hx
      exact ⟨sl, (hs.2 b (Nat.ne_of_lt (Nat.lt_of_lt_of_le (Heap.lt_size e) I.ok.above))).trans e1⟩
    · obtain ⟨o', e1⟩ := I.base.there b o e hx
      exact ⟨o', (hs.2 b (Nat.ne_of_lt (Nat.lt_of_lt_of_le (Heap.lt_size e) I.ok.above))).trans e1⟩
    · by_cases hj : j = i
      · subst hj
        rw [hi] at e1; cases e1
        rw [List.getElem?_set_self hiσ] at e2
        cases e2
        exact ⟨u, r, .inl ⟨hk, by simp⟩⟩
      · rw [List.getElem?_set_ne (Ne.symm hj)] at e2
        obtain ⟨u', r', q⟩ := hl j y v' e1 e2 e3
        refine ⟨u', r', ?_⟩
        rcases q with ⟨k, e⟩ | ⟨k, c, e, z⟩
        · refine .inl ⟨k, ?_⟩
          have : y ≠ x := fun e => hj (nodup_ix hN e1 (e ▸ hi))
          simp [this, e]
        · exact .inr ⟨k, c, e, z.sameBut hs (cne y c e)⟩
    · obtain ⟨w', z⟩ := I.cell y c e
      exact ⟨w', z.sameBut hs (cne y c e)⟩
    · obtain ⟨e, n, ne, nf, d⟩ := I.pin p hp
      exact ⟨(hs.2 p.1 ne).trans e, n, ne, nf, d⟩
  · have hfn : X.fn x = true := by
      rcases hf with z | z
      · exact z
      · rw [z] at hk; cases hk
    obtain ⟨c, hc⟩ := I.ok.has x (.inl hk)
    obtain ⟨w', z⟩ := I.cell x c hc
    refine wpAny_storeName_cell I.ok.kind hk hc z (fun h' hc' hs => ?_)
    obtain ⟨oc, hoc, hocd⟩ := id z
    refine h { s with heap := h' } ⟨I.ok, I.os, I.bare, ⟨fun b o e n hb hx => ?_, fun b o e n hb hx => ?_, I.base.free, fun b o e hx => ?_, I.base.tups, I.base.frzs, I.base.tbls⟩, ⟨m, hn.sameBut hs (Ne.symm (cne x c hc)), fun j y v' e1 e2 e3 => ?_⟩, fun y c' e => ?_, I.free, I.freeC, fun p hp => ?_, tracked ⟨oc, hoc, I.freeC x c hc⟩ hs, by simpa using I.len⟩ ⟨c, hs, .inr hc⟩
    · exact (hs.2 b (Nat.ne_of_lt (Nat.lt_of_lt_of_le (Heap.lt_size e) (I.ok.cab x c hfn hc)))).trans (I.base.keep b o e n hb hx)
    · obtain ⟨sl, e1⟩ := I.base.slot b o e n hb hx
      exact ⟨sl, (hs.2 b (Nat.ne_of_lt (Nat.lt_of_lt_of_le (Heap.lt_size e) (I.ok.cab x c hfn hc)))).trans e1⟩
    · obtain ⟨o', e1⟩ := I.base.there b o e hx
      exact ⟨o', (hs.2 b (Nat.ne_of_lt (Nat.lt_of_lt_of_le (Heap.lt_size e) (I.ok.cab x c hfn hc)))).trans e1⟩
    · by_cases hj : j = i
      · subst hj
        rw [hi] at e1; cases e1
        rw [List.getElem?_set_self hiσ] at e2
        cases e2
        exact ⟨u, r, .inr ⟨.inl hk, c, hc, hc'⟩⟩
      · rw [List.getElem?_set_ne (Ne.symm hj)] at e2
        obtain ⟨u', r', q⟩ := hl j y v' e1 e2 e3
        refine ⟨u', r', ?_⟩
        rcases q with q | ⟨k, c', e, z'⟩
        · exact .inl q
        · refine .inr ⟨k, c', e, z'.sameBut hs ?_⟩
          rintro rfl
          exact hj (nodup_ix hN e1 (I.ok.inj _ _ _ e hc ▸ hi))
    · by_cases hcc : c' = c
      · subst hcc; exact ⟨_, hc'⟩
      · obtain ⟨w2, z2⟩ := I.cell y c' e
        exact ⟨w2, z2.sameBut hs hcc⟩
    · obtain ⟨e, n, ne, nf, d⟩ := I.pin p hp
      refine ⟨(hs.2 p.1 ?_).trans e, n, ne, nf, d⟩
      intro q
      rw [q, hoc] at e
      have q' : oc = p.2 := Option.some.inj e
      exact d w' (by rw [← q']; exact hocd)
theorem store_ok {M : Model} {A : Around} {E : Value → Shared → Prop} {i : Nat} {x : Str} {v : V} {u : Value} {Q : Unit → Shared → Prop} (I : Inv X pins σ H s) (hN : X.N.Nodup) (hi : X.N[i]? = some x) (hx : Loc X.env.scope x) (r : RelV v u)
    (h : ∀ s', Inv X pins (σ.set i (some v)) H s' → Q () s') (hf : X.fn x = true ∨ X.env.scope.names.lookup x = some .local := by first | exact .inl rfl | exact .inr rfl | assumption) : wpAny M A (storeName X.env x u) Q E s :=
  store_ok2 I hN hi hx r (fun s' I' _ => h s' I') hf
theorem Inv.call' {s' : Shared} {ch : List Addr} (I : Inv X pins σ H s) (ho : s'.os = s.os) (u : Un (frs X.stack) ch H H' s.heap s'.heap) (hok : HOk X.prog X.w H' s'.heap) (hg : AllBare s'.gens)
    (hch : ∀ b ∈ ch, (b ∈ X.ex ∨ X.s₀.heap.objs.size ≤ b) ∧ b ≠ X.env.locals ∧ (∀ x c, X.env.cells.lookup x = some c → c ≠ b) ∧ ∀ p ∈ X.pn ++ pins, p.1 ≠ b) : Inv X pins σ H' s' := by
  obtain ⟨h', g', d', t', o'⟩ := s'
  have e : o' = s.os := ho
  subst e
  exact I.call (g' := g') (t' := t') (d' := d') u hok hg hch
end
noncomputable abbrev XK := Value → Option Addr → Hp → Prop
noncomputable abbrev St := List (Option V)
noncomputable abbrev VK := V → Hp → Prop
noncomputable abbrev TE := St → Hp → VK → Prop
noncomputable abbrev TT := St → Hp → (Bool → Hp → Prop) → Prop
noncomputable abbrev TA := St → Hp → (List V → Hp → Prop) → Prop
structure Ends where
  nx : St → Hp → Prop
  rt : VK
  bk : St → Hp → Prop := fun _ _ => False
  ct : St → Hp → Prop := fun _ _ => False
noncomputable abbrev TS := Ends → St → Hp → Prop
noncomputable def EP (X : Cx) (pins : List (Addr × Obj)) (σ : St) (Q : VK) (u : Value) (s' : Shared) : Prop := ∃ v H', Inv X pins σ H' s' ∧ RelV v u ∧ Q v H'
noncomputable def TP (X : Cx) (pins : List (Addr × Obj)) (σ : St) (Q : Bool → Hp → Prop) (b : Bool) (s' : Shared) : Prop := ∃ H', Inv X pins σ H' s' ∧ Q b H'
noncomputable def AP (X : Cx) (pins : List (Addr × Obj)) (σ : St) (Q : List V → Hp → Prop) (us : List Value) (s' : Shared) : Prop := ∃ vs H', Inv X pins σ H' s' ∧ Vals vs us ∧ Q vs H'
noncomputable def SP (X : Cx) (pins : List (Addr × Obj)) (D : Ends) (f : Flow) (s' : Shared) : Prop :=
  match f with
  | .next => ∃ σ' H', Inv X pins σ' H' s' ∧ D.nx σ' H'
  | .brk => ∃ σ' H', Inv X pins σ' H' s' ∧ D.bk σ' H'
  | .cont => ∃ σ' H', Inv X pins σ' H' s' ∧ D.ct σ' H'
  | .ret u => ∃ v σ' H', Inv X pins σ' H' s' ∧ RelV v u ∧ D.rt v H'
noncomputable def PE (X : Cx) (e : Expr) (t : TE) : Prop :=
  ∀ (pins : List (Addr × Obj)) (s : Shared) (σ : St) (H : Hp) (Q : VK), Inv X pins σ H s → t σ H Q → wpAny (model X.prog X.w) X.A (eval e X.env) (EP X pins σ Q) X.xe s
noncomputable def PT (X : Cx) (e : Expr) (t : TT) : Prop :=
  ∀ (pins : List (Addr × Obj)) (s : Shared) (σ : St) (H : Hp) (Q : Bool → Hp → Prop), Inv X pins σ H s → t σ H Q → wpAny (model X.prog X.w) X.A (isTrue e X.env (eval e X.env)) (TP X pins σ Q) X.xe s
noncomputable def PW (X : Cx) (e : Expr) (t : TT) : Prop :=
  ∀ (whole : Sem Value) (pins : List (Addr × Obj)) (s : Shared) (σ : St) (H : Hp) (Q : Bool → Hp → Prop), Inv X pins σ H s → t σ H Q → wpAny (model X.prog X.w) X.A (isTrue e X.env whole) (TP X pins σ Q) X.xe s
theorem PW.pt {X : Cx} {e : Expr} {t : TT} (h : PW X e t) : PT X e t := h _
noncomputable def PA (X : Cx) (es : List Expr) (t : TA) : Prop :=
  ∀ (pos : Pos) (pins : List (Addr × Obj)) (s : Shared) (σ : St) (H : Hp) (Q : List V → Hp → Prop), Inv X pins σ H s → t σ H Q → wpAny (model X.prog X.w) X.A (spliced (backTo pos (starEach es X.env))) (AP X pins σ Q) X.xe s
noncomputable def PS (X : Cx) (st : Stmt) (t : TS) : Prop :=
  ∀ (pins : List (Addr × Obj)) (s : Shared) (σ : St) (H : Hp) (D : Ends), Inv X pins σ H s → t D σ H → wpAny (model X.prog X.w) X.A (exec st X.env) (SP X pins D) X.xe s
noncomputable def PSs (X : Cx) (st : List Stmt) (t : TS) : Prop :=
  ∀ (pins : List (Addr × Obj)) (s : Shared) (σ : St) (H : Hp) (D : Ends), Inv X pins σ H s → t D σ H → wpAny (model X.prog X.w) X.A (execs st X.env) (SP X pins D) X.xe s
theorem thn {α : Type} {t : Sem α} {Q Q' : α → Shared → Prop} {M : Model} {A : Around} {E : Value → Shared → Prop} {s : Shared} (h : wpAny M A t Q E s) (hQ : ∀ a s, Q a s → Q' a s) : wpAny M A t Q' E s := wpAny_mono h hQ fun _ _ x => x
end L2
namespace L2
open PySem PySem.Spec PyProof.Rows
section
variable {X : Cx}
theorem bin {a b : Expr} {ta tb : TE} (ha : PE X a ta) (hb : PE X b tb) {pins : List (Addr × Obj)} {s : Shared} {σ : St} {H : Hp} {R : V → V → Hp → Prop} (I : Inv X pins σ H s) (h : ta σ H fun x H1 => tb σ H1 fun y H2 => R x y H2)
    {α : Type} {Q : α → Shared → Prop} {f : Value → Value → Sem α}
    (hf : ∀ v u s2 x y H2, Inv X pins σ H2 s2 → RelV x v → RelV y u → R x y H2 → wpAny (model X.prog X.w) X.A (f v u) Q X.xe s2) :
    wpAny (model X.prog X.w) X.A (eval a X.env) (fun v s₁ => wpAny (model X.prog X.w) X.A (eval b X.env) (fun u s₂ => wpAny (model X.prog X.w) X.A (f v u) Q X.xe s₂) X.xe s₁) X.xe s := by
  refine thn (ha pins s σ H _ I h) fun v s1 ⟨x, H1, I1, r1, q1⟩ => ?_
  refine thn (hb pins s1 σ H1 _ I1 q1) fun u s2 ⟨y, H2, I2, r2, q2⟩ => ?_
  exact hf v u s2 x y H2 I2 r1 r2 q2
noncomputable def tVar (i : Nat) : TE := fun σ H Q => ∃ v, σ[i]? = some (some v) ∧ Q v H
noncomputable def tC (v : V) : TE := fun _ H Q => Q v H
theorem pe_var {i : Nat} {x : Str} {pos : Pos} (hN : X.N[i]? = some x) (hv : Vis X.env.scope x) (hd : (x == ("__debug__" : Str)) = false := by decide) (hcd : (x == ("__classdict__" : Str)) = false := by decide) : PE X (.Name x pos) (tVar i) := by
  intro pins s σ H Q I h
  obtain ⟨v, e, h⟩ := h
  obtain ⟨m, hn, hl⟩ := I.loc
  obtain ⟨u, r, l⟩ := hl i x v hN e hv
  have fin : EP X pins σ Q u s := ⟨v, H, I, r, h⟩
  rcases l with ⟨hk, hm⟩ | ⟨hk, c, hc, hcell⟩
  · exact wpAny_Name (wpAny_loadName_local I.ok.kind hk hn hm fin) hd
  · rcases hk with hk | hk
    · exact wpAny_Name (wpAny_loadName_cell I.ok.kind hk hc hcell fin) hd
    · exact wpAny_Name (wpAny_loadName_free I.ok.kind hk hc hcell fin hcd) hd
theorem pe_int {i j pos} : PE X (.Constant (.int i) j pos) (tC (.int i)) := fun _ _ _ H _ I h => wpAny_Constant_int ⟨.int i, H, I.tok _, ⟨_, rfl⟩, h⟩
theorem pe_bl {b j pos} : PE X (.Constant (.bool b) j pos) (tC (.bl b)) := fun _ _ _ H _ I h => Constant_bool ⟨.bl b, H, I, rfl, h⟩
theorem pe_non {j pos} : PE X (.Constant .none j pos) (tC .non) := fun _ _ _ H _ I h => Constant_none ⟨.non, H, I, rfl, h⟩
theorem pe_str {x j pos} : PE X (.Constant (.str x) j pos) (tC (.str x)) := fun _ _ _ H _ I h => Calls.Constant_str ⟨.str x, H, I.tok _, ⟨_, rfl⟩, h⟩
noncomputable def Gl (X : Cx) (x : Str) : Prop := X.env.kindOf x = some .globalImplicit
theorem ld_glob {E : Value → Shared → Prop} {pins : List (Addr × Obj)} {s : Shared} {σ : St} {H : Hp} {x : Str} {u : Value} {pos : Pos} {Q : Value → Shared → Prop} (I : Inv X pins σ H s) (hg : Gl X x) (hm : X.mg x = some u) (h : Q u s)
    (hd : (x == ("__debug__" : Str)) = false := by decide) : wpAny (model X.prog X.w) X.A (eval (.Name x pos) X.env) Q E s :=
  Calls.Name_function_global I.ok.kind hg (Calls.loadGlobal_global (by rw [I.ok.glob]; exact I.mod.glob.keeps I.bk) hm h) hd
theorem ld_blt {E : Value → Shared → Prop} {pins : List (Addr × Obj)} {s : Shared} {σ : St} {H : Hp} {x : Str} {u : Value} {pos : Pos} {Q : Value → Shared → Prop} (I : Inv X pins σ H s) (hg : Gl X x) (hm : X.mg x = none) (hv : bootBuiltins x = some u) (h : Q u s)
    (hn : x ≠ "__name__" := by decide) (hd : (x == ("__debug__" : Str)) = false := by decide) : wpAny (model X.prog X.w) X.A (eval (.Name x pos) X.env) Q E s := by
  obtain ⟨mb, h1, h2⟩ := I.mod.blt
  exact Calls.Name_function_global I.ok.kind hg (Calls.loadGlobal_builtin (by rw [I.ok.glob]; exact I.mod.glob.keeps I.bk) hm (by rw [I.ok.blt]; exact h1.keeps I.bk) ((h2 x hn).trans hv) h) hd
theorem pe_glob {x : Str} {v : V} {u : Value} {pos : Pos} (hg : Gl X x) (hm : X.mg x = some u) (r : RelV v u) (hd : (x == ("__debug__" : Str)) = false := by decide) : PE X (.Name x pos) (tC v) :=
  fun _ _ _ H _ I h => ld_glob I hg hm ⟨v, H, I, r, h⟩ hd
theorem pe_bltn {x : Str} {v : V} {u : Value} {pos : Pos} (hg : Gl X x) (hm : X.mg x = none) (hv : bootBuiltins x = some u) (r : RelV v u) (hn : x ≠ "__name__" := by decide) (hd : (x == ("__debug__" : Str)) = false := by decide) : PE X (.Name x pos) (tC v) :=
  fun _ _ _ H _ I h => ld_blt I hg hm hv ⟨v, H, I, r, h⟩ hn hd
variable {a b : Expr} {ta tb : TE} {pos : Pos}
noncomputable def PC (X : Cx) (op : CmpOp) (a b : Expr) (t : TE) : Prop :=
  ∀ (pins : List (Addr × Obj)) (s : Shared) (σ : St) (H : Hp) (Q : VK), Inv X pins σ H s → t σ H Q →
    wpAny (model X.prog X.w) X.A (eval a X.env) (fun v s₁ => wpAny (model X.prog X.w) X.A (eval b X.env) (fun u s₂ => wpAny (model X.prog X.w) X.A (compareOp op v u) (EP X pins σ Q) X.xe s₂) X.xe s₁) X.xe s
theorem nobehind (b : Expr) {op : CmpOp} (h : op ≠ .In) (h2 : op ≠ .NotIn) : behindInMarks op b = false := by
  have e1 : (op == CmpOp.In) = false := by cases op <;> first | rfl | exact absurd rfl h
  have e2 : (op == CmpOp.NotIn) = false := by cases op <;> first | rfl | exact absurd rfl h2
  cases b <;> simp [behindInMarks, e1, e2]
noncomputable def tNotN (ta : TE) : TE := fun σ H Q => ta σ H fun x H1 => Q (.bl (!decide (x = .non))) H1
theorem RelV.none_iff {x : V} {v : Value} (r : RelV x v) : (v == Value.none) = decide (x = .non) := by
  cases x with
  | non => cases r; rfl
  | bl _ => cases r; rfl
  | int _ => obtain ⟨t, rfl⟩ := r; rfl
  | str _ => obtain ⟨t, rfl⟩ := r; rfl
  | byt _ => obtain ⟨t, rfl⟩ := r; rfl
  | flt _ => obtain ⟨t, rfl⟩ := r; rfl
  | ref _ => cases r; rfl
  | ty _ => cases r; rfl
theorem pc_notN {j pos'} (ha : PE X a ta) : PC X .IsNot a (.Constant .none j pos') (tNotN ta) := by
  intro pins s σ H Q I h
  refine thn (ha pins s σ H _ I h) fun v s1 ⟨x, H1, I1, r1, q1⟩ => ?_
  exact Constant_none (isnot_none_gen ⟨.bl _, H1, I1, by rw [r1.none_iff]; rfl, q1⟩)
noncomputable def tB (t : TE) : TT := fun σ H Q => t σ H fun x H1 => ∃ c, x = .bl c ∧ Q c H1
theorem pt_cmp {op : CmpOp} {t : TE} (h : PC X op a b t) (h1 : behindInMarks op b = false := by first | exact nobehind _ (by decide) (by decide) | rfl) : PT X (.Compare a [op] [b] pos) (tB t) := by
  intro pins s σ H Q I hw
  refine wpAny_isTrue_Compare1 (thn (h pins s σ H _ I hw) fun v s1 h1 => thn h1 fun u s2 h2 => thn h2 fun c s3 ⟨x, H1, I1, r1, q1⟩ => ?_) h1
  obtain ⟨d, rfl, q⟩ := q1
  cases r1
  exact wpAny_truthy_bool ⟨H1, I1, q⟩
variable {tA tB' : TT} {rest : List Expr}
noncomputable def tAnd (t u : TT) : TT := fun σ H Q => t σ H fun c H1 => if c = true then u σ H1 Q else Q false H1
noncomputable def tOr (t u : TT) : TT := fun σ H Q => t σ H fun c H1 => if c = true then Q true H1 else u σ H1 Q
noncomputable def tNot (t : TT) : TT := fun σ H Q => t σ H fun c H1 => Q (!c) H1
theorem pw_and1 (ha : PT X a tA) : PW X (.BoolOp .And [a] pos) tA := by
  intro wh pins s σ H Q I h
  refine isTrue_and (thn (ha pins s σ H Q I h) fun c s1 e => ?_)
  cases c with
  | true => exact isTrue_and_nil e
  | false => exact e
theorem pw_or1 (ha : PT X a tA) : PW X (.BoolOp .Or [a] pos) tA := by
  intro wh pins s σ H Q I h
  refine isTrue_or (thn (ha pins s σ H Q I h) fun c s1 e => ?_)
  cases c with
  | false => exact isTrue_or_nil e
  | true => exact e
theorem pw_and (ha : PT X a tA) (hb : PW X (.BoolOp .And (b :: rest) pos) tB') : PW X (.BoolOp .And (a :: b :: rest) pos) (tAnd tA tB') := by
  intro wh pins s σ H Q I h
  refine isTrue_and (thn (ha pins s σ H _ I h) fun c s1 ⟨H1, I1, q1⟩ => ?_)
  cases c with
  | true => exact hb wh pins s1 σ H1 Q I1 q1
  | false => exact ⟨H1, I1, q1⟩
theorem pw_or (ha : PT X a tA) (hb : PW X (.BoolOp .Or (b :: rest) pos) tB') : PW X (.BoolOp .Or (a :: b :: rest) pos) (tOr tA tB') := by
  intro wh pins s σ H Q I h
  refine isTrue_or (thn (ha pins s σ H _ I h) fun c s1 ⟨H1, I1, q1⟩ => ?_)
  cases c with
  | true => exact ⟨H1, I1, q1⟩
  | false => exact hb wh pins s1 σ H1 Q I1 q1
theorem pt_not (ha : PT X a tA) : PT X (.UnaryOp .Not a pos) (tNot tA) := by
  intro pins s σ H Q I h
  exact isTrue_not (ha pins s σ H (fun c H1 => Q (!c) H1) I h)
theorem pe_one {op} {t : TE} (h : PE X a t) : PE X (.BoolOp op [a] pos) t := fun pins s σ H Q I hw => BoolOp_one (h pins s σ H Q I hw)
end
end L2
namespace L2
open PySem PySem.Spec PyProof.Rows
noncomputable def SqL (K : PySem.W.Frag) (H : Hp) (a : Addr) (xs : List V) : Prop :=
  Rd H a (.lst xs) ∨
    ∃ (o : Obj) (its : Array Value) (n : Nat), K.lookup a = some o ∧ o.cls = .type "list" ∧ o.dict = none ∧ o.data = .seq its n ∧ its.size ≤ sizeLine ∧ Vals xs its.toList
noncomputable def SqT (K : PySem.W.Frag) (H : Hp) (a : Addr) (xs : List V) : Prop :=
  Rd H a (.tup xs) ∨
    ∃ (o : Obj) (its : Array Value) (n : Nat), K.lookup a = some o ∧ o.cls = .type "tuple" ∧ o.data = .seq its n ∧ its.size ≤ sizeLine ∧ Vals xs its.toList
noncomputable def absV : Value → Option V
  | .none => some .non
  | .bool b => some (.bl b)
  | .int i _ => some (.int i)
  | .str x _ => some (.str x)
  | .bytes b _ => some (.byt b)
  | .float b _ => some (.flt b)
  | .ref a => some (.ref a)
  | .type n => some (.ty n)
  | _ => none
theorem RelV.abs {x : V} {u : Value} (r : RelV x u) : absV u = some x := by
  cases x with
  | non => cases r; rfl
  | bl _ => cases r; rfl
  | int _ => obtain ⟨t, rfl⟩ := r; rfl
  | str _ => obtain ⟨t, rfl⟩ := r; rfl
  | byt _ => obtain ⟨t, rfl⟩ := r; rfl
  | flt _ => obtain ⟨t, rfl⟩ := r; rfl
  | ref _ => cases r; rfl
  | ty _ => cases r; rfl
theorem RelV.inj {x y : V} {u : Value} (r : RelV x u) (q : RelV y u) : x = y := Option.some.inj (r.abs.symm.trans q.abs)
theorem Vals.inj : ∀ {xs ys : List V} {us : List Value}, Vals xs us → Vals ys us → xs = ys
  | _, _, _, .nil, .nil => rfl
  | _, _, _, .cons r t, .cons r' t' => by rw [r.inj r', Vals.inj t t']
section
variable {X : Cx} {pins : List (Addr × Obj)} {σ : St} {H : Hp} {s : Shared} {a : Addr} {xs ys : List V}
theorem SqL.of {K : PySem.W.Frag} (h : H a = some (.lst xs)) : SqL K H a xs := .inl (.inl h)
theorem SqT.of {K : PySem.W.Frag} (h : H a = some (.tup xs)) : SqT K H a xs := .inl (.inl h)
theorem Inv.list (I : Inv X pins σ H s) (h : SqL X.K H a xs) : ∃ its : List Value, Vals xs its ∧ PlainL s.heap a its.toArray ∧ xs.length ≤ sizeLine := by
  rcases h with h | ⟨o, its, n, hk, hc, hd, hs, hz, r⟩
  · obtain ⟨z, its, n, r, e⟩ := h.ok I.hok
    exact ⟨its, r, ⟨_, n, e, rfl, rfl, rfl⟩, z⟩
  · refine ⟨its.toList, r, ⟨o, n, I.kIn a o hk, hc, hd, by simpa using hs⟩, ?_⟩
    have e := r.length
    simp only [Array.length_toList] at e
    omega
theorem Inv.tuple (I : Inv X pins σ H s) (h : SqT X.K H a xs) : ∃ its : List Value, Vals xs its ∧ IsTup s.heap a its.toArray ∧ xs.length ≤ sizeLine := by
  rcases h with h | ⟨o, its, n, hk, hc, hs, hz, r⟩
  · obtain ⟨z, its, r, p⟩ := h.ok I.hok
    exact ⟨its, r, p, z⟩
  · refine ⟨its.toList, r, ⟨o, I.kIn a o hk, hc, n, by simpa using hs⟩, ?_⟩
    have e := r.length
    simp only [Array.length_toList] at e
    omega
theorem Inv.list_inj (I : Inv X pins σ H s) (h : SqL X.K H a xs) (h' : SqL X.K H a ys) : xs = ys := by
  obtain ⟨its, r, ⟨o, n, e, _, _, d⟩, _⟩ := I.list h
  obtain ⟨its', r', ⟨o', n', e', _, _, d'⟩, _⟩ := I.list h'
  rw [e] at e'; cases e'
  rw [d] at d'
  injection d' with d1 _
  have : its = its' := by simpa using congrArg Array.toList d1
  subst this
  exact r.inj r'
theorem Inv.tuple_inj (I : Inv X pins σ H s) (h : SqT X.K H a xs) (h' : SqT X.K H a ys) : xs = ys := by
  obtain ⟨its, r, ⟨o, e, _, n, d⟩, _⟩ := I.tuple h
  obtain ⟨its', r', ⟨o', e', _, n', d'⟩, _⟩ := I.tuple h'
  rw [e] at e'; cases e'
  rw [d] at d'
  injection d' with d1 _
  have : its = its' := by simpa using congrArg Array.toList d1
  subst this
  exact r.inj r'
end
noncomputable abbrev Cx.wish (X : Cx) (E : Value → Shared → Prop) : Cx := { X with xe := E }
noncomputable abbrev Cx.nox (X : Cx) : Cx := X.wish fun _ _ => False
theorem Cx.Ok.wish {X : Cx} (ok : X.Ok) (E : Value → Shared → Prop) : (X.wish E).Ok :=
  ⟨ok.mod, ok.kind, ok.glob, ok.blt, ok.above, ok.inj, ok.has, ok.cab, ok.hd, ok.frames, ok.stk, ok.exf, ok.bs, ok.bsz, ok.noex, ok.exfs, ok.funs, ok.frf⟩
theorem Cx.Ok.unwish {X : Cx} {E : Value → Shared → Prop} (ok : (X.wish E).Ok) : X.Ok :=
  ⟨ok.mod, ok.kind, ok.glob, ok.blt, ok.above, ok.inj, ok.has, ok.cab, ok.hd, ok.frames, ok.stk, ok.exf, ok.bs, ok.bsz, ok.noex, ok.exfs, ok.funs, ok.frf⟩
section
variable {X : Cx} {pins : List (Addr × Obj)} {σ : St} {H : Hp} {s : Shared} {E : Value → Shared → Prop}
theorem Inv.wish (I : Inv X pins σ H s) (E : Value → Shared → Prop) : Inv (X.wish E) pins σ H s := ⟨I.ok.wish E, I.os, I.bare, I.base, I.loc, I.cell, I.free, I.freeC, I.pin, I.hok, I.len⟩
theorem Inv.unwish (I : Inv (X.wish E) pins σ H s) : Inv X pins σ H s := ⟨I.ok.unwish, I.os, I.bare, I.base, I.loc, I.cell, I.free, I.freeC, I.pin, I.hok, I.len⟩
theorem SP.unwish {D : Ends} {f : Flow} {s' : Shared} (h : SP (X.wish E) pins D f s') : SP X pins D f s' := by
  cases f with
  | next => obtain ⟨σ', H', I, q⟩ := h; exact ⟨σ', H', I.unwish, q⟩
  | brk => obtain ⟨σ', H', I, q⟩ := h; exact ⟨σ', H', I.unwish, q⟩
  | cont => obtain ⟨σ', H', I, q⟩ := h; exact ⟨σ', H', I.unwish, q⟩
  | ret u => obtain ⟨v, σ', H', I, r, q⟩ := h; exact ⟨v, σ', H', I.unwish, r, q⟩
theorem PSs.nox {st : List Stmt} {t : TS} (h : PSs X.nox st t) : PSs X st t := fun pins s σ H D I hw =>
  wpAny_mono (h pins s σ H D (I.wish _) hw) (fun _ _ q => q.unwish) fun _ _ z => False.elim z
end
section
variable {X : Cx} {st : Stmt} {rest : List Stmt} {t u : TS} {e : Expr} {te : TE} {pos : Pos}
noncomputable def tNext : TS := fun D σ H => D.nx σ H
noncomputable def tSeq (t u : TS) : TS := fun D σ H => t { D with nx := u D } σ H
theorem pss_nil : PSs X [] tNext := fun _ _ σ H _ I h => wpAny_execs_nil ⟨σ, H, I, h⟩
theorem pss_cons (h1 : PS X st t) (h2 : PSs X rest u) : PSs X (st :: rest) (tSeq t u) := by
  intro pins s σ H D I h
  refine wpAny_execs_cons (thn (h1 pins s σ H { D with nx := u D } I h) fun f s1 q => ?_)
  cases f with
  | next =>
    obtain ⟨σ', H', I', q⟩ := q
    exact h2 pins s1 σ' H' D I' q
  | ret v => exact q
  | brk => exact q
  | cont => exact q
theorem pss_one (h1 : PS X st t) : PSs X [st] t := by
  intro pins s σ H D I h
  refine wpAny_execs_cons (thn (h1 pins s σ H D I h) fun f s1 q => ?_)
  cases f with
  | next => exact wpAny_execs_nil q
  | ret v => exact q
  | brk => exact q
  | cont => exact q
theorem Inv.quiet {pins : List (Addr × Obj)} {σ : St} {H : Hp} {s : Shared} (I : Inv X pins σ H s) : interactive X.env = false := by simp [interactive, I.ok.kind]
noncomputable def tDrop (te : TE) : TS := fun D σ H => te σ H fun _ H1 => D.nx σ H1
theorem ps_expr (he : PE X e te) (hs : swapsWith e none pos.line X.env = pure false := by rfl) : PS X (.Expr e pos) (tDrop te) := by
  intro pins s σ H D I h
  exact wpAny_Expr_any (thn (he pins s σ H _ I h) fun v s1 ⟨x, H1, I1, r1, q1⟩ => ⟨σ, H1, I1, q1⟩) I.quiet hs
noncomputable def tRet (te : TE) : TS := fun D σ H => te σ H D.rt
theorem ps_ret (he : PE X e te) : PS X (.Return (some e) pos) (tRet te) := by
  intro pins s σ H D I h
  exact wpAny_Return_some (thn (he pins s σ H _ I h) fun v s1 ⟨x, H1, I1, r1, q1⟩ => ⟨x, σ, H1, I1, r1, q1⟩)
noncomputable def tIfS (c : TT) (t u : TS) : TS := fun D σ H => c σ H fun b H1 => if b = true then t D σ H1 else u D σ H1
theorem ps_if {c : Expr} {a b : List Stmt} {tc : TT} (hc : PT X c tc) (ha : PSs X a t) (hb : PSs X b u) : PS X (.If c a b pos) (tIfS tc t u) := by
  intro pins s σ H D I h
  refine wpAny_If (thn (hc pins s σ H _ I h) fun d s1 ⟨H1, I1, q1⟩ => ?_)
  cases d with
  | true => exact ha pins s1 σ H1 D I1 q1
  | false => exact hb pins s1 σ H1 D I1 q1
noncomputable def tNever : TS := fun _ _ _ => False
theorem pss_never {sts : List Stmt} : PSs X sts tNever := fun _ _ _ _ _ _ h => h.elim
end
noncomputable abbrev TG := V → St → Hp → (St → Hp → Prop) → Prop
noncomputable abbrev TGs := List V → St → Hp → (St → Hp → Prop) → Prop
noncomputable def PG (X : Cx) (target : Expr) (t : TG) : Prop :=
  ∀ (pins : List (Addr × Obj)) (s : Shared) (σ : St) (H : Hp) (v : V) (u : Value) (Q : St → Hp → Prop), Inv X pins σ H s → RelV v u → t v σ H Q →
    wpAny (model X.prog X.w) X.A (assign target X.env u) (fun _ s' => ∃ σ' H', Inv X pins σ' H' s' ∧ Q σ' H') X.xe s
noncomputable def PGs (X : Cx) (ts : List Expr) (t : TGs) : Prop :=
  ∀ (pins : List (Addr × Obj)) (s : Shared) (σ : St) (H : Hp) (vs : List V) (us : List Value) (Q : St → Hp → Prop), Inv X pins σ H s → Vals vs us → t vs σ H Q →
    wpAny (model X.prog X.w) X.A (assignInOrder ((assignEach ts X.env).map (·.2)) us) (fun _ s' => ∃ σ' H', Inv X pins σ' H' s' ∧ Q σ' H') X.xe s
noncomputable abbrev TSet := V → V → V → Hp → (Hp → Prop) → Prop
noncomputable def PSet (X : Cx) (t : TSet) : Prop :=
  ∀ (pins : List (Addr × Obj)) (s : Shared) (σ : St) (H : Hp) (o i v : V) (ov iv u : Value) (Q : Hp → Prop), Inv X pins σ H s → RelV o ov → RelV i iv → RelV v u → t o i v H Q →
    wpAny (model X.prog X.w) X.A (setItem ov iv u) (fun _ s' => ∃ H', Inv X pins σ H' s' ∧ Q H') X.xe s
section
variable {X : Cx} {pos : Pos}
noncomputable def gName (i : Nat) : TG := fun v σ H Q => Q (σ.set i (some v)) H
theorem pg_name {i : Nat} {x : Str} (hN : X.N.Nodup) (hi : X.N[i]? = some x) (hx : Loc X.env.scope x) (hf : X.fn x = true ∨ X.env.scope.names.lookup x = some .local := by first | exact .inl rfl | exact .inr rfl | assumption) : PG X (.Name x pos) (gName i) := by
  intro pins s σ H v u Q I r h
  exact wpAny_assign_Name (store_ok I hN hi hx r (fun s' I' => ⟨_, H, I', h⟩) hf)
noncomputable def gNil : TGs := fun vs σ H Q => vs = [] ∧ Q σ H
noncomputable def gCons (t : TG) (u : TGs) : TGs := fun vs σ H Q => ∃ v r, vs = v :: r ∧ t v σ H fun σ' H' => u r σ' H' Q
theorem pgs_nil : PGs X [] gNil := by
  intro pins s σ H vs us Q I r h
  obtain ⟨e, h⟩ := h
  subst e
  cases r
  exact assignInOrder_nil ⟨σ, H, I, h⟩
theorem pgs_cons {e : Expr} {es : List Expr} {t : TG} {u : TGs} (h1 : PG X e t) (h2 : PGs X es u)
    (hs : (assignEach (e :: es) X.env).map (·.2) = assign e X.env :: (assignEach es X.env).map (·.2) := by rfl) : PGs X (e :: es) (gCons t u) := by
  intro pins s σ H vs us Q I r h
  obtain ⟨v, vr, e1, h⟩ := h
  subst e1
  cases r with
  | cons r rr =>
    rw [hs]
    refine assignInOrder_cons (thn (h1 pins s σ H _ _ _ I r h) fun _ s1 ⟨σ1, H1, I1, q1⟩ => ?_)
    exact h2 pins s1 σ1 H1 _ _ Q I1 rr q1
noncomputable def gTup (K : PySem.W.Frag) (n : Nat) (t : TGs) : TG := fun v σ H Q => ∃ a xs, v = .ref a ∧ SqT K H a xs ∧ xs.length = n ∧ t xs σ H Q
theorem pg_tup {es : List Expr} {k : Nat} {t : TGs} {n : Nat} (hc : X.calm = true) (h : PGs X es t)
    (hn : (assignEach es X.env).length = n := by rfl) (hst : (assignEach es X.env).findIdx? (·.1) = none := by rfl) : PG X (.Tuple es k pos) (gTup X.K n t) := by
  intro pins s σ H v u Q I r hw
  obtain ⟨a, xs, e1, hq, hl, hw⟩ := hw
  subst e1
  cases r
  obtain ⟨its, rv, ht, hz⟩ := I.tuple hq
  refine assign_Tuple_tuple (I.ok.hd hc) ht (by simp [hn, ← hl, rv.length]) hst fun h' hx => ?_
  have I1 : Inv X pins σ H { s with heap := h' } := I.kept (t' := s.toks) fun b o e => hx b o (Nat.ne_of_lt (Heap.lt_size e)) e
  exact h pins _ σ H xs _ Q I1 (by simpa using rv) hw
noncomputable def gSub (to ti : TE) (t : TSet) : TG := fun v σ H Q => to σ H fun o H1 => ti σ H1 fun i H2 => t o i v H2 fun H3 => Q σ H3
theorem pg_sub {o i : Expr} {to ti : TE} {t : TSet} (ho : PE X o to) (hi : PE X i ti) (hs : PSet X t)
    (ha : ∀ v, assign (.Subscript o i pos) X.env v = (do
      let ov ← holding [v] (eval o X.env)
      let iv ← holding [v, ov] (eval i X.env)
      standAt pos
      holding [v, ov, iv] (setItem ov iv v)
      release [v, ov, iv] []) := by intro _; rfl) : PG X (.Subscript o i pos) (gSub to ti t) := by
  intro pins s σ H v u Q I r h
  rw [ha]
  refine wpAny_bind (wpAny_holding (thn (ho pins s σ H _ I h) fun ov s1 ⟨x, H1, I1, r1, q1⟩ => ?_))
  refine wpAny_bind (wpAny_holding (thn (hi pins s1 σ H1 _ I1 q1) fun iv s2 ⟨y, H2, I2, r2, q2⟩ => ?_))
  refine wpAny_bind (wpAny_standAt (wpAny_bind (wpAny_holding (thn (hs pins s2 σ H2 x y v ov iv u _ I2 r1 r2 r q2) fun _ s3 ⟨H3, I3, q3⟩ => ?_))))
  exact wpAny_release ⟨σ, H3, I3, q3⟩
noncomputable def tAsg (te : TE) (g : TG) : TS := fun D σ H => te σ H fun x H1 => g x σ H1 D.nx
theorem ps_asg {tg e : Expr} {te : TE} {g : TG} (he : PE X e te) (hg : PG X tg g) (hs : swapsWithSole [tg] e pos.line X.env = pure false := by rfl) (hw : swappedStores [tg] e X.env = pure none := by rfl)
    (h1 : (assignEach [tg] X.env).map (·.2) = [assign tg X.env] := by rfl) : PS X (.Assign [tg] e pos) (tAsg te g) := by
  intro pins s σ H D I h
  refine wpAny_Assign_stores (thn (he pins s σ H _ I h) fun v s1 ⟨x, H1, I1, r1, q1⟩ => ?_) hs hw
  rw [h1]
  exact thn (hg pins s1 σ H1 x v _ I1 r1 q1) fun _ s2 q => q
theorem ps_set {i : Nat} {x : Str} {e : Expr} {te : TE} {pos' : Pos} (hN : X.N.Nodup) (hi : X.N[i]? = some x) (hx : Loc X.env.scope x) (he : PE X e te) (hs : swapsWith e (some (.Name x pos')) pos.line X.env = pure false := by rfl) (hf : X.fn x = true ∨ X.env.scope.names.lookup x = some .local := by first | exact .inl rfl | exact .inr rfl | assumption) :
    PS X (.Assign [.Name x pos'] e pos) (tAsg te (gName i)) := by
  intro pins s σ H D I h
  refine wpAny_Assign_Name (thn (he pins s σ H _ I h) fun v s1 ⟨y, H1, I1, r1, q1⟩ => ?_) hs
  exact store_ok I1 hN hi hx r1 (fun s2 I2 => ⟨_, H1, I2, q1⟩) hf
end
section
variable {X : Cx} {pos : Pos}
end
structure It where
  go : Nat → Hp → Prop
  yld : Nat → Hp → V → Hp → Prop
  stop : Nat → Hp → Prop
noncomputable def FpOk (X : Cx) (pins : List (Addr × Obj)) (H : Hp) (b : Addr) : Prop :=
  H b = none ∧ b ≠ X.env.locals ∧ b ∉ X.fs ∧ (b ∈ X.ex ∨ X.s₀.heap.objs.size ≤ b) ∧ (∀ x c, X.env.cells.lookup x = some c → c ≠ b) ∧ ∀ p ∈ X.pn ++ pins, p.1 ≠ b
theorem Inv.fpOk {X : Cx} {pins : List (Addr × Obj)} {σ : St} {H H' : Hp} {s : Shared} {b : Addr} (I : Inv X pins σ H s) (hb : s.heap.objs.size ≤ b) (hn : H' b = none) : FpOk X pins H' b := by
  refine ⟨hn, Nat.ne_of_gt (Nat.lt_of_lt_of_le I.lt hb), I.nofs hb, .inr (Nat.le_trans I.sz hb), fun x c e z => ?_, fun p hp z => ?_⟩
  · obtain ⟨v, q⟩ := I.cell x c e
    exact absurd (Nat.lt_of_lt_of_le q.lt (by rw [z]; exact hb)) (Nat.lt_irrefl _)
  · exact absurd (Nat.lt_of_lt_of_le (Heap.lt_size (I.pin p hp).1) (by rw [z]; exact hb)) (Nat.lt_irrefl _)
structure Turn (P : Program) (w : World) (K : PySem.W.Frag) (tg : Expr) (J : It) (fp : List Addr) (it : Addr) (tn : Nat → Heap → Prop) : Prop where
  mem : it ∈ fp
  obj : ∀ i h, tn i h → ∀ b ∈ fp, ∃ o, h.get? b = some o ∧ ∀ v, o.data ≠ .cell v
  keep : ∀ i h h', tn i h → (∀ b ∈ fp, ∀ o, h.get? b = some o → h'.get? b = some o) → tn i h'
  item : ∀ (X : Cx), X.prog = P → X.w = w → X.K = K → X.calm = true → ∀ (i : Nat) (pins : List (Addr × Obj)) (s : Shared) (σ : St) (H : Hp) (E : Value → Shared → Prop), Inv X pins σ H s → (∀ b ∈ fp, FpOk X pins H b) → tn i s.heap → J.go i H →
    wpAny (model P w) X.A (pyNext (.ref it)) (fun r s1 => ∃ u, r = some u ∧
      wpAny (model P w) X.A (letOwnedTupleGo tg (.ref it) u) (fun _ s2 => ∃ x H', Inv X pins σ H' s2 ∧ RelV x u ∧ J.yld i H x H' ∧ tn (i + 1) s2.heap ∧ ∀ b ∈ fp, H' b = none) E s1) E s
  done : ∀ (X : Cx), X.prog = P → X.w = w → X.K = K → X.calm = true → ∀ (i : Nat) (pins : List (Addr × Obj)) (s : Shared) (σ : St) (H : Hp) (E : Value → Shared → Prop), Inv X pins σ H s → (∀ b ∈ fp, FpOk X pins H b) → tn i s.heap → J.stop i H →
    wpAny (model P w) X.A (pyNext (.ref it)) (fun r s1 => r = none ∧ Inv X pins σ H s1) E s
  self : ∀ (A : Around) (i : Nat) (s : Shared) (Q : Value → Shared → Prop) (E : Value → Shared → Prop), tn i s.heap → Q (.ref it) s → wpAny (model P w) A (pyIter (.ref it)) Q E s
noncomputable abbrev TI := St → Hp → (It → Hp → Prop) → Prop
noncomputable def PIE (X : Cx) (pins : List (Addr × Obj)) (σ : St) (tg : Expr) (R : It → Hp → Prop) (itv : Value) (s2 : Shared) : Prop :=
  ∃ (it : Addr) (fp : List Addr) (tn : Nat → Heap → Prop) (J : It) (H' : Hp), itv = .ref it ∧ Inv X pins σ H' s2 ∧ Turn X.prog X.w X.K tg J fp it tn ∧ tn 0 s2.heap ∧ (∀ b ∈ fp, FpOk X pins H' b) ∧ R J H'
noncomputable def PI (X : Cx) (tg iter : Expr) (wi : TI) : Prop :=
  ∀ (pins : List (Addr × Obj)) (s : Shared) (σ : St) (H : Hp) (R : It → Hp → Prop), Inv X pins σ H s → wi σ H R →
    wpAny (model X.prog X.w) X.A (eval iter X.env) (fun v s1 => wpAny (model X.prog X.w) X.A (pyIter v) (PIE X pins σ tg R) X.xe s1) X.xe s
theorem go_of {M : Model} {A : Around} {E : Value → Shared → Prop} {s : Shared} {tg : Expr} {it : Addr} {u : Value} {o : Obj} {n : String} {vs : Array Value} {Q : Unit → Shared → Prop} (ho : s.heap.get? it = some o) (hc : o.cls = .type n) (hd : o.data = .fields vs)
    (hn : ["enumerate", "zip", "dict_itemiterator", "dict_reverseitemiterator", "odict_iterator", "itertools.zip_longest", "itertools.pairwise"].contains n = false) (hQ : Q () s) : wpAny M A (letOwnedTupleGo tg (.ref it) u) Q E s := by
  unfold letOwnedTupleGo
  cases tg <;> first
    | exact wpAny_pure hQ
    | (cases u <;> first
        | exact wpAny_pure hQ
        | (refine wpAny_bind (wpAny_load ho ?_)
           rw [hc, hd]
           show wpAny M A (if (["enumerate", "zip", "dict_itemiterator", "dict_reverseitemiterator", "odict_iterator", "itertools.zip_longest", "itertools.pairwise"].contains n && vs[0]? == some (rawInt _)) = true then _ else _) Q E s
           rw [if_neg (by intro h; rw [hn, Bool.false_and] at h; cases h)]
           exact wpAny_pure hQ))
noncomputable def Itl (K : PySem.W.Frag) (a : Addr) : It :=
  ⟨fun i H => ∃ xs x, SqL K H a xs ∧ xs[i]? = some x, fun i H x H' => H' = H ∧ ∀ xs, SqL K H a xs → xs[i]? = some x, fun i H => ∃ xs, SqL K H a xs ∧ xs.length ≤ i⟩
noncomputable def Itt (K : PySem.W.Frag) (a : Addr) : It :=
  ⟨fun i H => ∃ xs x, SqT K H a xs ∧ xs[i]? = some x, fun i H x H' => H' = H ∧ ∀ xs, SqT K H a xs → xs[i]? = some x, fun i H => ∃ xs, SqT K H a xs ∧ xs.length ≤ i⟩
noncomputable def Itr (lo : Int) (n : Nat) : It := ⟨fun i _ => i < n, fun i H x H' => H' = H ∧ x = .int (lo + i), fun i _ => n ≤ i⟩
theorem turn_list {P : Program} {w : World} {K : PySem.W.Frag} {tg : Expr} (a it : Addr) : Turn P w K tg (Itl K a) [it] it (fun i h => h.IsListIter it a i) where
  mem := by simp
  obj := fun i h st b hb => by
    have e : b = it := by simpa using hb
    subst e
    obtain ⟨o, e, c, d⟩ := st
    exact ⟨o, e, fun v z => by rw [d] at z; cases z⟩
  keep := fun i h h' st k => st.at fun o e => k it (by simp) o e
  item := by
    intro X hP hw hK hc i pins s σ H E I hf st hg
    subst hP hw hK
    obtain ⟨xs, x, hq, hx⟩ := hg
    obtain ⟨its, rv, p, hz⟩ := I.list hq
    obtain ⟨u, hu, ru⟩ := rv.get hx
    obtain ⟨f0, f1, f2, f3, f4, f5⟩ := hf it (by simp)
    refine wpAny_pyNext_list_item st p.isList (x := u) (by simpa using hu) fun h' st' sb => ?_
    have I1 : Inv X pins σ H { s with heap := h' } := I.turned (t' := s.toks) (fun b o hb e => (sb.2 b hb).trans e) f0 f1 f3 f4 f5
    obtain ⟨o, e, c, d⟩ := id st'
    exact ⟨u, rfl, go_of (s := { s with heap := h' }) e c d (by decide) ⟨x, H, I1, ru, ⟨rfl, fun ys hy => by rw [I.list_inj hy hq]; exact hx⟩, st', fun b hb => (hf b hb).1⟩⟩
  done := by
    intro X hP hw hK hc i pins s σ H E I hf st hg
    subst hP hw hK
    obtain ⟨xs, hq, hx⟩ := hg
    obtain ⟨its, rv, p, hz⟩ := I.list hq
    obtain ⟨f0, f1, f2, f3, f4, f5⟩ := hf it (by simp)
    have hl := rv.length
    exact wpAny_pyNext_list_end (I.ok.hd hc) st p.isList (by simp; omega) fun h' eb => ⟨rfl, I.turned (t' := s.toks) (fun b o hb e => eb b o hb e) f0 f1 f3 f4 f5⟩
  self := fun _ _ _ _ _ st h => wpAny_pyIter_listiter st h
theorem turn_tuple {P : Program} {w : World} {K : PySem.W.Frag} {tg : Expr} (a it : Addr) : Turn P w K tg (Itt K a) [it] it (fun i h => h.IsTupleIter it a i) where
  mem := by simp
  obj := fun i h st b hb => by
    have e : b = it := by simpa using hb
    subst e
    obtain ⟨o, e, c, d⟩ := st
    exact ⟨o, e, fun v z => by rw [d] at z; cases z⟩
  keep := fun i h h' st k => st.at fun o e => k it (by simp) o e
  item := by
    intro X hP hw hK hc i pins s σ H E I hf st hg
    subst hP hw hK
    obtain ⟨xs, x, hq, hx⟩ := hg
    obtain ⟨its, rv, p, hz⟩ := I.tuple hq
    obtain ⟨u, hu, ru⟩ := rv.get hx
    obtain ⟨f0, f1, f2, f3, f4, f5⟩ := hf it (by simp)
    refine wpAny_pyNext_tuple_item st (show s.heap.IsTuple a its.toArray from p) (x := u) (by simpa using hu) fun h' st' sb => ?_
    have I1 : Inv X pins σ H { s with heap := h' } := I.turned (t' := s.toks) (fun b o hb e => (sb.2 b hb).trans e) f0 f1 f3 f4 f5
    obtain ⟨o, e, c, d⟩ := id st'
    exact ⟨u, rfl, go_of (s := { s with heap := h' }) e c d (by decide) ⟨x, H, I1, ru, ⟨rfl, fun ys hy => by rw [I.tuple_inj hy hq]; exact hx⟩, st', fun b hb => (hf b hb).1⟩⟩
  done := by
    intro X hP hw hK hc i pins s σ H E I hf st hg
    subst hP hw hK
    obtain ⟨xs, hq, hx⟩ := hg
    obtain ⟨its, rv, p, hz⟩ := I.tuple hq
    obtain ⟨f0, f1, f2, f3, f4, f5⟩ := hf it (by simp)
    have hl := rv.length
    exact wpAny_pyNext_tuple_end (I.ok.hd hc) st (show s.heap.IsTuple a its.toArray from p) (by simp; omega) fun h' eb => ⟨rfl, I.turned (t' := s.toks) (fun b o hb e => eb b o hb e) f0 f1 f3 f4 f5⟩
  self := fun _ _ _ _ _ st h => wpAny_pyIter_tupleiter st h
theorem turn_range {P : Program} {w : World} {K : PySem.W.Frag} {tg : Expr} (it : Addr) (lo : Int) (n : Nat) : Turn P w K tg (Itr lo n) [it] it (fun i h => IsRangeIter h it (lo + (i : Nat) * 1) ((n : Int) - (i : Nat)) 1) where
  mem := by simp
  obj := fun i h st b hb => by
    have e : b = it := by simpa using hb
    subst e
    exact ⟨_, st, fun v z => by
      have z' : Data.fields _ = Data.cell v := z
      cases z'⟩
  keep := fun i h h' st k => k it (by simp) _ st
  item := by
    intro X hP hw hK hc i pins s σ H E I hf st hg
    subst hP hw hK
    obtain ⟨f0, f1, f2, f3, f4, f5⟩ := hf it (by simp)
    have W := Walks.range (prog := X.prog) (w := X.w) (I.ok.hd hc) it lo 1 n
    refine W.item i s _ _ hg st fun v h' tk hv st' kk => ?_
    obtain ⟨t, rfl⟩ := hv
    have I1 : Inv X pins σ H { s with heap := h', toks := tk } := I.turned (fun b o hb e => kk b o (by simpa using hb) e) f0 f1 f3 f4 f5
    refine ⟨_, rfl, go_of (s := { s with heap := h', toks := tk }) (n := "range_iterator") st' rfl rfl (by decide) ⟨.int (lo + i), H, I1, ⟨t, ?_⟩, ⟨rfl, rfl⟩, st', fun b hb => (hf b hb).1⟩⟩
    rw [Int.mul_one]
  done := by
    intro X hP hw hK hc i pins s σ H E I hf st hg
    subst hP hw hK
    obtain ⟨f0, f1, f2, f3, f4, f5⟩ := hf it (by simp)
    exact wpAny_pyNext_range_end (I.ok.hd hc) st (by have : n ≤ i := hg; omega) fun h' eb => ⟨rfl, I.turned (t' := s.toks) (fun b o hb e => eb b o hb e) f0 f1 f3 f4 f5⟩
  self := fun _ _ _ _ _ st h => wpAny_pyIter_rangeiter st h
end L2
namespace L2
open PySem PySem.Spec PyProof.Rows
section
variable {X : Cx} {tg : Expr}
noncomputable def iList (K : PySem.W.Frag) (tl : TE) : TI := fun σ H R => tl σ H fun x H1 => ∃ a, x = .ref a ∧ (∃ xs, SqL K H1 a xs) ∧ R (Itl K a) H1
noncomputable def iTup (K : PySem.W.Frag) (tl : TE) : TI := fun σ H R => tl σ H fun x H1 => ∃ a, x = .ref a ∧ (∃ xs, SqT K H1 a xs) ∧ R (Itt K a) H1
theorem pi_list {l : Expr} {tl : TE} (hl : PE X l tl) : PI X tg l (iList X.K tl) := by
  intro pins s σ H R I h
  refine thn (hl pins s σ H _ I h) fun v s1 ⟨x, H1, I1, r1, q1⟩ => ?_
  obtain ⟨a, e, ⟨xs, hq⟩, q⟩ := q1
  subst e
  cases r1
  obtain ⟨its, rv, p, hz⟩ := I1.list hq
  refine wpAny_pyIter_list p.isList ?_
  refine ⟨s1.heap.objs.size, [s1.heap.objs.size], _, _, H1, rfl, I1.kept (t' := s1.toks) fun b o e => Heap.get?_push_of_some _ e, turn_list a _, ⟨_, Heap.get?_push_size _ rfl, rfl, rfl⟩, fun b hb => ?_, q⟩
  have e : b = s1.heap.objs.size := by simpa using hb
  subst e
  exact I1.fpOk (Nat.le_refl _) (I1.hok.fresh (Nat.le_refl _))
theorem pi_tup {l : Expr} {tl : TE} (hl : PE X l tl) : PI X tg l (iTup X.K tl) := by
  intro pins s σ H R I h
  refine thn (hl pins s σ H _ I h) fun v s1 ⟨x, H1, I1, r1, q1⟩ => ?_
  obtain ⟨a, e, ⟨xs, hq⟩, q⟩ := q1
  subst e
  cases r1
  obtain ⟨its, rv, p, hz⟩ := I1.tuple hq
  refine wpAny_pyIter_tuple (show s1.heap.IsTuple a its.toArray from p) ?_
  refine ⟨s1.heap.objs.size, [s1.heap.objs.size], _, _, H1, rfl, I1.kept (t' := s1.toks) fun b o e => Heap.get?_push_of_some _ e, turn_tuple a _, ⟨_, Heap.get?_push_size _ rfl, rfl, rfl⟩, fun b hb => ?_, q⟩
  have e : b = s1.heap.objs.size := by simpa using hb
  subst e
  exact I1.fpOk (Nat.le_refl _) (I1.hok.fresh (Nat.le_refl _))
theorem range_it {pins : List (Addr × Obj)} {σ : St} {H : Hp} {s : Shared} {R : It → Hp → Prop} {E : Value → Shared → Prop} {lo hi : Int} {t u v : Tok} {tk : Nat} (I : Inv X pins σ H s) (h1 : -(2 ^ 62) ≤ lo) (h2 : lo < 2 ^ 62) (h3 : -(2 ^ 62) ≤ hi) (h4 : hi < 2 ^ 62)
    (q : R (Itr lo (hi - lo).toNat) H) : wpAny (model X.prog X.w) X.A (pyIter (.ref s.heap.objs.size)) (PIE X pins σ tg R) E { s with heap := s.heap.push { cls := .type "range", data := .fields #[.int lo t, .int hi u, .int 1 v] }, toks := tk } := by
  refine wpAny_pyIter_range (IsRange.new ..) (small_one h1 h2 h3 h4) ?_
  have I1 : Inv X pins σ H { s with heap := s.heap.push { cls := .type "range", data := .fields #[.int lo t, .int hi u, .int 1 v] }, toks := tk } := I.kept fun b o e => Heap.get?_push_of_some _ e
  refine ⟨(s.heap.push { cls := .type "range", data := .fields #[.int lo t, .int hi u, .int 1 v] }).objs.size, [(s.heap.push { cls := .type "range", data := .fields #[.int lo t, .int hi u, .int 1 v] }).objs.size], _, _, H, rfl,
    I1.kept (t' := tk) fun b o e => Heap.get?_push_of_some _ e, turn_range _ lo (hi - lo).toNat, ?_, fun b hb => ?_, q⟩
  · have e1 : lo + ((0 : Nat) : Int) * 1 = lo := by simp
    have e2 : (((hi - lo).toNat : Nat) : Int) - ((0 : Nat) : Int) = Builtin.Range.rangeSize lo hi 1 := by rw [rangeSize_one]; split <;> omega
    show IsRangeIter _ _ (lo + ((0 : Nat) : Int) * 1) ((((hi - lo).toNat : Nat) : Int) - ((0 : Nat) : Int)) 1
    rw [e1, e2]
    exact Heap.get?_push_size _ rfl
  · have e : b = (s.heap.push { cls := .type "range", data := .fields #[.int lo t, .int hi u, .int 1 v] }).objs.size := by simpa using hb
    subst e
    exact I1.fpOk (Nat.le_refl _) (I1.hok.fresh (Nat.le_refl _))
noncomputable def iRng1 (ta : TA) : TI := fun σ H R => ta σ H fun vs H1 => ∃ j : Int, vs = [.int j] ∧ -(2 ^ 62) ≤ j ∧ j < 2 ^ 62 ∧ R (Itr 0 j.toNat) H1
noncomputable def iRng2 (ta : TA) : TI := fun σ H R => ta σ H fun vs H1 => ∃ i j : Int, vs = [.int i, .int j] ∧ (-(2 ^ 62) ≤ i ∧ i < 2 ^ 62 ∧ -(2 ^ 62) ≤ j ∧ j < 2 ^ 62) ∧ R (Itr i (j - i).toNat) H1
theorem pi_range1 {a : Expr} {ta : TA} {p pos : Pos} (hg : Gl X "range") (hm : X.mg "range" = none) (ha : PA X [a] ta) (hs : starEach [a] X.env = [(false, eval a X.env)] := by rfl) : PI X tg (.Call (.Name "range" p) [a] [] pos) (iRng1 ta) := by
  intro pins s σ H R I h
  refine Call_ (ld_blt I hg hm boot_range (PyProof.Rows.callWith_type1 (thn (ha pos pins s σ H _ I h) fun us s1 ⟨vs, H1, I1, r1, q1⟩ => ?_) hs rfl))
  obtain ⟨j, e, q1, q2, q⟩ := q1
  subst e
  cases r1 with
  | cons r rr =>
    cases rr
    obtain ⟨t, rfl⟩ := r
    exact call_range_1 (range_it I1 (by omega) (by omega) q1 q2 (by simpa using q))
theorem pi_range2 {a b : Expr} {ta : TA} {p pos : Pos} (hg : Gl X "range") (hm : X.mg "range" = none) (ha : PA X [a, b] ta) (hs : starEach [a, b] X.env = [(false, eval a X.env), (false, eval b X.env)] := by rfl) (hs2 : starEach [b] X.env = [(false, eval b X.env)] := by rfl) :
    PI X tg (.Call (.Name "range" p) [a, b] [] pos) (iRng2 ta) := by
  intro pins s σ H R I h
  refine Call_ (ld_blt I hg hm boot_range (PyProof.Rows.callWith_type1 (thn (ha pos pins s σ H _ I h) fun us s1 ⟨vs, H1, I1, r1, q1⟩ => ?_) (by rw [hs, hs2]) (by rw [hs2]; rfl)))
  obtain ⟨i, j, e, ⟨q1, q2, q3, q4⟩, q⟩ := q1
  subst e
  cases r1 with
  | cons r rr =>
    cases rr with
    | cons r' rr =>
      cases rr
      obtain ⟨t, rfl⟩ := r
      obtain ⟨t', rfl⟩ := r'
      exact call_range_2 (range_it I1 q1 q2 q3 q4 q)
noncomputable def tFor (wi : TI) (g : TG) (tb : TS) : TS := fun D σ H => wi σ H fun J H1 => ∃ W : Nat → Nat → St → Hp → Prop, (∃ m, W 0 m σ H1) ∧ ∀ i m σ H, W i m σ H →
  (J.stop i H ∧ D.nx σ H) ∨ (J.go i H ∧ ∃ N : St → Hp → Prop, (∀ σ' H', N σ' H' → ∃ m', m' < m ∧ W (i + 1) m' σ' H') ∧ ∀ x H', J.yld i H x H' → g x σ H' fun σ2 H2 => tb { D with nx := N, ct := N, bk := D.nx } σ2 H2)
noncomputable def pinsAt (fp : List Addr) (h : Heap) : List (Addr × Obj) := fp.filterMap fun b => (h.get? b).map fun o => (b, o)
theorem mem_pinsAt {fp : List Addr} {h : Heap} {b : Addr} {o : Obj} (hb : b ∈ fp) (e : h.get? b = some o) : (b, o) ∈ pinsAt fp h := List.mem_filterMap.mpr ⟨b, hb, by rw [e]; rfl⟩
theorem of_pinsAt {fp : List Addr} {h : Heap} {p : Addr × Obj} (hp : p ∈ pinsAt fp h) : p.1 ∈ fp ∧ h.get? p.1 = some p.2 := by
  obtain ⟨b, hb, e⟩ := List.mem_filterMap.mp hp
  cases q : h.get? b with
  | none => rw [q] at e; cases e
  | some o =>
    rw [q] at e
    have e' : (b, o) = p := Option.some.inj e
    subst e'
    exact ⟨hb, q⟩
theorem Inv.pinned {pins : List (Addr × Obj)} {σ : St} {H : Hp} {s : Shared} {fp : List Addr} (I : Inv X pins σ H s) (hf : ∀ b ∈ fp, FpOk X pins H b) (ho : ∀ b ∈ fp, ∃ o, s.heap.get? b = some o ∧ ∀ v, o.data ≠ .cell v) : Inv X (pins ++ pinsAt fp s.heap) σ H s :=
  I.pins_of fun p hp => (List.mem_append.mp hp).elim (fun z => I.pin p (List.mem_append_right _ z)) fun z => by
    obtain ⟨hb, e⟩ := of_pinsAt z
    obtain ⟨f0, f1, f2, _⟩ := hf p.1 hb
    obtain ⟨o, e', d⟩ := ho p.1 hb
    rw [e] at e'; cases e'
    exact ⟨e, f0, f1, f2, d⟩
theorem Inv.unpinned {pins pl : List (Addr × Obj)} {σ : St} {H : Hp} {s : Shared} (I : Inv X (pins ++ pl) σ H s) : Inv X pins σ H s := I.pins_of fun p hp => I.pin p (List.mem_append_right _ (List.mem_append_left _ hp))
theorem ps_for {iter : Expr} {body : List Stmt} {wi : TI} {g : TG} {tb : TS} {pos : Pos} (hp : PassesOwn (model X.prog X.w) X.A X.env X.xe) (hc : X.calm = true) (hi : PI X tg iter wi) (hg : PG X tg g) (hb : PSs X body tb)
    (hs : ∀ x, foldedSetIterable iter X.env x = pure x := by intro _; rfl) : PS X (.For tg iter body [] pos) (tFor wi g tb) := by
  intro pins s σ H D I h
  refine wpAny_For (thn (hi pins s σ H _ I h) fun v s1 h1 => thn h1 fun itv s2 h2 => ?_) hs
  obtain ⟨it, fp, tn, J, H2, e, I2, T, st2, f2, W, ⟨m0, w0⟩, turn⟩ := h2
  subst e
  -- what stays true of the iterator's objects through the loop
  have stat : ∀ {H' : Hp}, (∀ b ∈ fp, H' b = none) → ∀ b ∈ fp, FpOk X pins H' b := fun hn b hb => ⟨hn b hb, (f2 b hb).2⟩
  refine codeAny_forLoop_any (fun n s' => ∃ i σ' H', Inv X pins σ' H' s' ∧ tn i s'.heap ∧ (∀ b ∈ fp, H' b = none) ∧ W i n σ' H') ?_ m0 ⟨0, σ, H2, I2, st2, fun b hb => (f2 b hb).1, w0⟩
  rintro n s3 ⟨i, σ3, H3, I3, st3, fr3, w3⟩
  rcases turn i n σ3 H3 w3 with ⟨stop, qn⟩ | ⟨go, N, hN, step⟩
  · refine wpAny_passesOwn hp (thn (T.done X rfl rfl rfl hc i pins s3 σ3 H3 X.xe I3 (stat fr3) st3 stop) fun r s4 ⟨hr, I4⟩ => ?_)
    subst hr
    exact wpAny_execs_nil ⟨σ3, H3, I4, qn⟩
  · refine wpAny_passesOwn hp (thn (T.item X rfl rfl rfl hc i pins s3 σ3 H3 X.xe I3 (stat fr3) st3 go) fun r s4 ⟨u, hr, h4⟩ => ?_)
    subst hr
    refine wpAny_passesOwn hp (thn h4 fun _ s5 ⟨x, H5, I5, r5, y5, st5, fr5⟩ => ?_)
    have I5' := I5.pinned (stat fr5) (T.obj _ _ st5)
    refine wpAny_passesOwn hp (thn (hg _ s5 σ3 H5 x u _ I5' r5 (step x H5 y5)) fun _ s6 ⟨σ6, H6, I6, q6⟩ => ?_)
    refine wpAny_passesOwn hp (thn (hb _ s6 σ6 H6 _ I6 q6) fun f s7 q7 => ?_)
    have again : ∀ {σ7 : St} {H7 : Hp}, Inv X (pins ++ pinsAt fp s5.heap) σ7 H7 s7 → N σ7 H7 → ∃ m, m < n ∧ ∃ i σ' H', Inv X pins σ' H' s7 ∧ tn i s7.heap ∧ (∀ b ∈ fp, H' b = none) ∧ W i m σ' H' := fun {σ7 H7} I7 n7 => by
      obtain ⟨m', hm, w7⟩ := hN σ7 H7 n7
      refine ⟨m', hm, i + 1, σ7, H7, I7.unpinned, T.keep _ _ _ st5 fun b hb o e => (I7.pin (b, o) (List.mem_append_right _ (List.mem_append_right _ (mem_pinsAt hb e)))).1, fun b hb => ?_, w7⟩
      obtain ⟨o, e, d⟩ := T.obj _ _ st5 b hb
      exact (I7.pin (b, o) (List.mem_append_right _ (List.mem_append_right _ (mem_pinsAt hb e)))).2.1
    cases f with
    | next => obtain ⟨σ7, H7, I7, n7⟩ := q7; exact again I7 n7
    | cont => obtain ⟨σ7, H7, I7, n7⟩ := q7; exact again I7 n7
    | brk => obtain ⟨σ7, H7, I7, q7⟩ := q7; exact ⟨σ7, H7, I7.unpinned, q7⟩
    | ret v => obtain ⟨x7, σ7, H7, I7, r7, q7⟩ := q7; exact ⟨x7, σ7, H7, I7.unpinned, r7, q7⟩
end
theorem for_list {K : PySem.W.Frag} {a : Addr} {xs : List V} {g : TG} {tb : TS} {D : Ends} {σ : St} {H : Hp} (Pv : Nat → St → Hp → Prop) (h0 : Pv 0 σ H) (hl : ∀ i σ H, i ≤ xs.length → Pv i σ H → SqL K H a xs)
    (hs : ∀ i x σ H, xs[i]? = some x → Pv i σ H → g x σ H fun σ2 H2 => tb { D with nx := Pv (i + 1), ct := Pv (i + 1), bk := D.nx } σ2 H2) (hd : ∀ σ H, Pv xs.length σ H → D.nx σ H) :
    ∃ W : Nat → Nat → St → Hp → Prop, (∃ m, W 0 m σ H) ∧ ∀ i m σ H, W i m σ H →
      ((Itl K a).stop i H ∧ D.nx σ H) ∨ ((Itl K a).go i H ∧ ∃ N : St → Hp → Prop, (∀ σ' H', N σ' H' → ∃ m', m' < m ∧ W (i + 1) m' σ' H') ∧ ∀ x H', (Itl K a).yld i H x H' → g x σ H' fun σ2 H2 => tb { D with nx := N, ct := N, bk := D.nx } σ2 H2) := by
  refine ⟨fun i m σ H => m = xs.length - i ∧ i ≤ xs.length ∧ Pv i σ H, ⟨xs.length, by simp, Nat.zero_le _, h0⟩, ?_⟩
  rintro i m σ H ⟨rfl, hi, p⟩
  have q := hl i σ H hi p
  by_cases hlt : i < xs.length
  · refine .inr ⟨⟨xs, xs[i], q, by simp [hlt]⟩, Pv (i + 1), fun σ' H' p' => ⟨xs.length - (i + 1), by omega, rfl, hlt, p'⟩, fun x H' y => ?_⟩
    obtain ⟨e, y⟩ := y
    subst e
    exact hs i x σ _ (y xs q) p
  · have e : i = xs.length := by omega
    subst e
    exact .inl ⟨⟨xs, q, Nat.le_refl _⟩, hd σ H p⟩
theorem for_tup {K : PySem.W.Frag} {a : Addr} {xs : List V} {g : TG} {tb : TS} {D : Ends} {σ : St} {H : Hp} (Pv : Nat → St → Hp → Prop) (h0 : Pv 0 σ H) (hl : ∀ i σ H, i ≤ xs.length → Pv i σ H → SqT K H a xs)
    (hs : ∀ i x σ H, xs[i]? = some x → Pv i σ H → g x σ H fun σ2 H2 => tb { D with nx := Pv (i + 1), ct := Pv (i + 1), bk := D.nx } σ2 H2) (hd : ∀ σ H, Pv xs.length σ H → D.nx σ H) :
    ∃ W : Nat → Nat → St → Hp → Prop, (∃ m, W 0 m σ H) ∧ ∀ i m σ H, W i m σ H →
      ((Itt K a).stop i H ∧ D.nx σ H) ∨ ((Itt K a).go i H ∧ ∃ N : St → Hp → Prop, (∀ σ' H', N σ' H' → ∃ m', m' < m ∧ W (i + 1) m' σ' H') ∧ ∀ x H', (Itt K a).yld i H x H' → g x σ H' fun σ2 H2 => tb { D with nx := N, ct := N, bk := D.nx } σ2 H2) := by
  refine ⟨fun i m σ H => m = xs.length - i ∧ i ≤ xs.length ∧ Pv i σ H, ⟨xs.length, by simp, Nat.zero_le _, h0⟩, ?_⟩
  rintro i m σ H ⟨rfl, hi, p⟩
  have q := hl i σ H hi p
  by_cases hlt : i < xs.length
  · refine .inr ⟨⟨xs, xs[i], q, by simp [hlt]⟩, Pv (i + 1), fun σ' H' p' => ⟨xs.length - (i + 1), by omega, rfl, hlt, p'⟩, fun x H' y => ?_⟩
    obtain ⟨e, y⟩ := y
    subst e
    exact hs i x σ _ (y xs q) p
  · have e : i = xs.length := by omega
    subst e
    exact .inl ⟨⟨xs, q, Nat.le_refl _⟩, hd σ H p⟩
theorem for_range {lo : Int} {n : Nat} {g : TG} {tb : TS} {D : Ends} {σ : St} {H : Hp} (Pv : Nat → St → Hp → Prop) (h0 : Pv 0 σ H)
    (hs : ∀ i σ H, i < n → Pv i σ H → g (.int (lo + i)) σ H fun σ2 H2 => tb { D with nx := Pv (i + 1), ct := Pv (i + 1), bk := D.nx } σ2 H2) (hd : ∀ σ H, Pv n σ H → D.nx σ H) :
    ∃ W : Nat → Nat → St → Hp → Prop, (∃ m, W 0 m σ H) ∧ ∀ i m σ H, W i m σ H →
      ((Itr lo n).stop i H ∧ D.nx σ H) ∨ ((Itr lo n).go i H ∧ ∃ N : St → Hp → Prop, (∀ σ' H', N σ' H' → ∃ m', m' < m ∧ W (i + 1) m' σ' H') ∧ ∀ x H', (Itr lo n).yld i H x H' → g x σ H' fun σ2 H2 => tb { D with nx := N, ct := N, bk := D.nx } σ2 H2) := by
  refine ⟨fun i m σ H => m = n - i ∧ i ≤ n ∧ Pv i σ H, ⟨n, by simp, Nat.zero_le _, h0⟩, ?_⟩
  rintro i m σ H ⟨rfl, hi, p⟩
  by_cases hlt : i < n
  · refine .inr ⟨hlt, Pv (i + 1), fun σ' H' p' => ⟨n - (i + 1), by omega, rfl, hlt, p'⟩, fun x H' y => ?_⟩
    obtain ⟨e, y⟩ := y
    subst e y
    exact hs i σ _ hlt p
  · have e : i = n := by omega
    subst e
    exact .inl ⟨Nat.le_refl _, hd σ H p⟩
end L2
namespace L2
open PySem PySem.Spec PyProof.Rows
noncomputable abbrev R2 := V → V → Hp → VK → Prop
noncomputable def OpR (X : Cx) (f : Value → Value → Sem Value) (r : R2) : Prop :=
  ∀ (pins : List (Addr × Obj)) (s : Shared) (σ : St) (H : Hp) (x y : V) (v u : Value) (Q : VK), Inv X pins σ H s → RelV x v → RelV y u → r x y H Q →
    wpAny (model X.prog X.w) X.A (f v u) (EP X pins σ Q) X.xe s
noncomputable def UnR (X : Cx) (f : Value → Sem Value) (r : V → Hp → VK → Prop) : Prop :=
  ∀ (pins : List (Addr × Obj)) (s : Shared) (σ : St) (H : Hp) (x : V) (v : Value) (Q : VK), Inv X pins σ H s → RelV x v → r x H Q →
    wpAny (model X.prog X.w) X.A (f v) (EP X pins σ Q) X.xe s
noncomputable def CallR (X : Cx) (f : Value) (r : List V → Hp → VK → Prop) : Prop :=
  ∀ (pins : List (Addr × Obj)) (s : Shared) (σ : St) (H : Hp) (xs : List V) (us : List Value) (Q : VK), Inv X pins σ H s → Vals xs us → r xs H Q →
    wpAny (model X.prog X.w) X.A (call f us) (EP X pins σ Q) X.xe s
noncomputable def tOp (r : R2) (ta tb : TE) : TE := fun σ H Q => ta σ H fun x H1 => tb σ H1 fun y H2 => r x y H2 Q
noncomputable def tUn (r : V → Hp → VK → Prop) (ta : TE) : TE := fun σ H Q => ta σ H fun x H1 => r x H1 Q
noncomputable def rI (C : Int → Int → Prop) (g : Int → Int → V) : R2 := fun x y H Q => ∃ i j, x = .int i ∧ y = .int j ∧ C i j ∧ Q (g i j) H
noncomputable def rI0 (g : Int → Int → V) : R2 := fun x y H Q => ∃ i j, x = .int i ∧ y = .int j ∧ Q (g i j) H
section
variable {X : Cx} {a b c : Expr} {ta tb tc : TE} {pos : Pos}
theorem binT (ha : PE X a ta) (hb : PE X b tb) {pins : List (Addr × Obj)} {s : Shared} {σ : St} {H : Hp} {R : V → V → Hp → Prop} (I : Inv X pins σ H s)
    (h : ta σ H fun x H1 => tb σ H1 fun y H2 => R x y H2) {Q : Value → Shared → Prop} {f : Value → Value → Sem Value}
    (hf : ∀ v u s2 x y H2, Inv X pins σ H2 s2 → RelV x v → RelV y u → R x y H2 → wpAny (model X.prog X.w) X.A (f v u) Q X.xe s2) :
    wpAny (model X.prog X.w) X.A (eval a X.env) (fun v s₁ => wpAny (model X.prog X.w) X.A (eval b X.env) (fun u s₂ => wpAny (model X.prog X.w) X.A (f v u) Q X.xe s₂) X.xe s₁) X.xe s := by
  refine thn (ha pins s σ H _ I h) fun v s1 ⟨x, H1, I1, r1, q1⟩ => ?_
  refine thn (hb pins s1 σ H1 _ I1 q1) fun u s2 ⟨y, H2, I2, r2, q2⟩ => ?_
  exact hf v u s2 x y H2 I2 r1 r2 q2
theorem pe_op {op : Operator} {r : R2} (ho : OpR X (binaryOp op) r) (ha : PE X a ta) (hb : PE X b tb) : PE X (.BinOp a op b pos) (tOp r ta tb) := by
  intro pins s σ H Q I h
  exact wpAny_BinOp (binT ha hb I h fun v u s2 x y H2 I2 rx ry q => ho pins s2 σ H2 x y v u Q I2 rx ry q)
theorem pe_un {op : UnaryOp} {r : V → Hp → VK → Prop} (ho : UnR X (unaryOp op) r) (ha : PE X a ta) : PE X (.UnaryOp op a pos) (tUn r ta) := by
  intro pins s σ H Q I h
  exact UnaryOp_ (thn (ha pins s σ H _ I h) fun v s1 ⟨x, H1, I1, r1, q1⟩ => ho pins s1 σ H1 x v Q I1 r1 q1)
theorem opI {f : Value → Value → Sem Value} {C : Int → Int → Prop} {g : Int → Int → Int}
    (rule : ∀ (i j : Int) (t u : Tok) (s : Shared) (Q : Value → Shared → Prop) (E : Value → Shared → Prop), C i j → Q (.int (g i j) s.toks) { s with toks := s.toks + 1 } → wpAny (model X.prog X.w) X.A (f (.int i t) (.int j u)) Q E s) :
    OpR X f (rI C fun i j => .int (g i j)) := by
  intro pins s σ H x y v u Q I rx ry h
  obtain ⟨i, j, rfl, rfl, hc, q⟩ := h
  obtain ⟨t, rfl⟩ := rx
  obtain ⟨t', rfl⟩ := ry
  exact rule i j t t' s _ _ hc ⟨.int (g i j), H, I.tok _, ⟨_, rfl⟩, q⟩
theorem opI0 {f : Value → Value → Sem Value} {g : Int → Int → Int}
    (rule : ∀ (i j : Int) (t u : Tok) (s : Shared) (Q : Value → Shared → Prop) (E : Value → Shared → Prop), Q (.int (g i j) s.toks) { s with toks := s.toks + 1 } → wpAny (model X.prog X.w) X.A (f (.int i t) (.int j u)) Q E s) :
    OpR X f (rI0 fun i j => .int (g i j)) := by
  intro pins s σ H x y v u Q I rx ry h
  obtain ⟨i, j, rfl, rfl, q⟩ := h
  obtain ⟨t, rfl⟩ := rx
  obtain ⟨t', rfl⟩ := ry
  exact rule i j t t' s _ _ ⟨.int (g i j), H, I.tok _, ⟨_, rfl⟩, q⟩
theorem opB0 {f : Value → Value → Sem Value} {g : Int → Int → Bool}
    (rule : ∀ (i j : Int) (t u : Tok) (s : Shared) (Q : Value → Shared → Prop) (E : Value → Shared → Prop), Q (.bool (g i j)) s → wpAny (model X.prog X.w) X.A (f (.int i t) (.int j u)) Q E s) :
    OpR X f (rI0 fun i j => .bl (g i j)) := by
  intro pins s σ H x y v u Q I rx ry h
  obtain ⟨i, j, rfl, rfl, q⟩ := h
  obtain ⟨t, rfl⟩ := rx
  obtain ⟨t', rfl⟩ := ry
  exact rule i j t t' s _ _ ⟨.bl (g i j), H, I, rfl, q⟩
noncomputable def CDiv (i j : Int) : Prop := 0 < j ∧ j < 1073741824
noncomputable def CPow (i j : Int) : Prop := 0 ≤ j ∧ j ≤ 1000000 ∧ i.natAbs < 2 ^ 64
noncomputable def CMul (i j : Int) : Prop := (-(2 ^ 64) < i ∧ i < 2 ^ 64) ∨ (-(2 ^ 64) < j ∧ j < 2 ^ 64)
theorem CMul.ok {i j : Int} (h : CMul i j) : IntMulOk i j := by
  rcases h with ⟨h1, h2⟩ | ⟨h1, h2⟩
  · exact .of_left (intBits_le_64 h1 h2)
  · exact .of_right (intBits_le_64 h1 h2)
theorem op_add : OpR X (binaryOp .Add) (rI0 fun i j => .int (i + j)) := opI0 fun _ _ _ _ _ _ _ q => add_int q
theorem op_sub : OpR X (binaryOp .Sub) (rI0 fun i j => .int (i - j)) := opI0 fun _ _ _ _ _ _ _ q => sub_int q
theorem op_mul : OpR X (binaryOp .Mult) (rI CMul fun i j => .int (i * j)) := opI fun _ _ _ _ _ _ _ hc q => mul_int q hc.ok
theorem op_fdiv : OpR X (binaryOp .FloorDiv) (rI CDiv fun i j => .int (i / j)) := opI fun i j _ _ _ _ _ hc q => by
  have h1 : (0 : Int) < j := hc.1
  have h2 : j < 1073741824 := hc.2
  exact floordiv_int (by omega) (by rw [Int.fdiv_eq_ediv_of_nonneg i (by omega)]; exact q) (.inl (PyProof.noPylong_small (by omega)))
theorem op_mod : OpR X (binaryOp .Mod) (rI (fun _ j => 0 < j) fun i j => .int (i % j)) := opI fun i j _ _ _ _ _ hc q => by
  have h1 : (0 : Int) < j := hc
  exact mod_int' (by omega) (by rw [Int.fmod_eq_emod_of_nonneg i (by omega)]; exact q)
theorem op_pow : OpR X (binaryOp .Pow) (rI CPow fun i j => .int (i ^ j.toNat)) := opI fun _ _ _ _ _ _ _ hc q => pow_int_small hc.1 hc.2.1 hc.2.2 q
end
noncomputable def scal : V → V → Bool
  | .non, .non => true | .non, .int _ => true | .int _, .non => true | .non, .bl _ => true | .bl _, .non => true | .non, .str _ => true | .str _, .non => true
  | .int _, .int _ => true | .bl _, .bl _ => true | .str _, .str _ => true | .byt _, .byt _ => true
  | .int _, .str _ => true | .str _, .int _ => true | .bl _, .str _ => true | .str _, .bl _ => true
  | _, _ => false
noncomputable def rNe : R2 := fun x y H Q => scal x y = true ∧ Q (.bl (!decide (x = y))) H
theorem dec_int {i j : Int} : decide (V.int i = V.int j) = (i == j) := by
  rw [Bool.eq_iff_iff]
  simp
theorem dec_bl {i j : Bool} : decide (V.bl i = V.bl j) = (i == j) := by
  rw [Bool.eq_iff_iff]
  simp
theorem dec_str {i j : Str} : decide (V.str i = V.str j) = (i == j) := by
  rw [Bool.eq_iff_iff]
  simp
theorem dec_byt {i j : Array UInt8} : decide (V.byt i = V.byt j) = (i.toList == j.toList) := by
  rw [Bool.eq_iff_iff]
  cases i
  cases j
  simp
section
variable {X : Cx} {a b c : Expr} {ta tb tc : TE} {pos : Pos}
theorem fin_bl {pins : List (Addr × Obj)} {σ : St} {H : Hp} {s : Shared} {Q : VK} {k k' : Bool} (I : Inv X pins σ H s) (q : Q (.bl k) H) (e : k = k') : EP X pins σ Q (.bool k') s := by
  subst e
  exact ⟨.bl k, H, I, rfl, q⟩
theorem op_ne : OpR X (compareOp .NotEq) rNe := by
  intro pins s σ H x y v u Q I rx ry h
  obtain ⟨hs, q⟩ := h
  cases x with
  | non =>
    cases rx
    cases y with
    | non => cases ry; exact PySem.EqNone.ne_none_none (fin_bl I q (by simp))
    | bl j => cases ry; exact PySem.EqNone.ne_none_bool (fin_bl I q (by simp))
    | int j => obtain ⟨t', rfl⟩ := ry; exact PySem.EqNone.ne_none_int (fin_bl I q (by simp))
    | str j => obtain ⟨t', rfl⟩ := ry; exact PySem.EqNone.ne_none_str (fin_bl I q (by simp))
    | _ => exact absurd (show false = true from hs) Bool.false_ne_true
  | bl i =>
    cases rx
    cases y with
    | non => cases ry; exact PySem.EqNone.ne_bool_none (fin_bl I q (by simp))
    | bl j => cases ry; exact ne_bool (fin_bl I q (congrArg not dec_bl))
    | str j => obtain ⟨t', rfl⟩ := ry; exact PySem.EqMixed.ne_bool_str (fin_bl I q (by simp))
    | _ => exact absurd (show false = true from hs) Bool.false_ne_true
  | int i =>
    obtain ⟨t, rfl⟩ := rx
    cases y with
    | non => cases ry; exact PySem.EqNone.ne_int_none (fin_bl I q (by simp))
    | int j => obtain ⟨t', rfl⟩ := ry; exact ne_int (fin_bl I q (congrArg not dec_int))
    | str j => obtain ⟨t', rfl⟩ := ry; exact PySem.EqMixed.ne_int_str (fin_bl I q (by simp))
    | _ => exact absurd (show false = true from hs) Bool.false_ne_true
  | str i =>
    obtain ⟨t, rfl⟩ := rx
    cases y with
    | non => cases ry; exact PySem.EqNone.ne_str_none (fin_bl I q (by simp))
    | bl j => cases ry; exact PySem.EqMixed.ne_str_bool (fin_bl I q (by simp))
    | int j => obtain ⟨t', rfl⟩ := ry; exact PySem.EqMixed.ne_str_int (fin_bl I q (by simp))
    | str j => obtain ⟨t', rfl⟩ := ry; exact ne_str (fin_bl I q (congrArg not dec_str))
    | _ => exact absurd (show false = true from hs) Bool.false_ne_true
  | byt i =>
    obtain ⟨t, rfl⟩ := rx
    cases y with
    | byt j => obtain ⟨t', rfl⟩ := ry; exact PySem.W.ne_bytes (fin_bl I q (congrArg not dec_byt))
    | _ => exact absurd (show false = true from hs) Bool.false_ne_true
  | _ => cases y <;> exact absurd (show false = true from hs) Bool.false_ne_true
theorem op_lt : OpR X (compareOp .Lt) (rI0 fun i j => .bl (decide (i < j))) := opB0 fun _ _ _ _ _ _ _ q => lt_int q
theorem op_le : OpR X (compareOp .LtE) (rI0 fun i j => .bl (decide (i ≤ j))) := opB0 fun _ _ _ _ _ _ _ q => le_int q
theorem op_gt : OpR X (compareOp .Gt) (rI0 fun i j => .bl (decide (j < i))) := opB0 fun _ _ _ _ _ _ _ q => gt_int q
theorem nomark (b : Expr) {op : CmpOp} (h : op ≠ .In := by decide) (h2 : op ≠ .NotIn := by decide) : behindInMarks op b = false := by
  have e1 : (op == CmpOp.In) = false := by cases op <;> first | rfl | exact absurd rfl h
  have e2 : (op == CmpOp.NotIn) = false := by cases op <;> first | rfl | exact absurd rfl h2
  cases b <;> simp [behindInMarks, e1, e2]
theorem pe_cmpR {op : CmpOp} {r : R2} (ho : OpR X (compareOp op) r) (ha : PE X a ta) (hb : PE X b tb) (hm : behindInMarks op b = false) : PE X (.Compare a [op] [b] pos) (tOp r ta tb) := by
  intro pins s σ H Q I h
  exact wpAny_Compare1 (binT ha hb I h fun v u s2 x y H2 I2 rx ry q => ho pins s2 σ H2 x y v u Q I2 rx ry q) hm
theorem line63 : (sizeLine : Nat) < 2 ^ 63 := by rw [sizeLine_eq]; decide
theorem op_add_str : OpR X (binaryOp .Add) (fun x y H Q => ∃ i j, x = .str i ∧ y = .str j ∧ i.length + j.length ≤ sizeLine ∧ Q (.str (i ++ j)) H) := by
  intro pins s σ H x y v u Q I rx ry h
  obtain ⟨i, j, rfl, rfl, hz, q⟩ := h
  obtain ⟨t, rfl⟩ := rx
  obtain ⟨t', rfl⟩ := ry
  exact add_str (fun t' tk => ⟨.str (i ++ j), H, I.tok _, ⟨_, rfl⟩, q⟩) hz
theorem vals1 {x : V} {us : List Value} (r : Vals [x] us) : ∃ u, us = [u] ∧ RelV x u := by
  cases r with
  | cons r1 r2 => cases r2; exact ⟨_, rfl, r1⟩
theorem vals2 {x y : V} {us : List Value} (r : Vals [x, y] us) : ∃ u w', us = [u, w'] ∧ RelV x u ∧ RelV y w' := by
  cases r with
  | cons r1 r2 =>
    cases r2 with
    | cons r3 r4 => cases r4; exact ⟨_, _, rfl, r1, r3⟩
theorem call_abs : CallR X (.builtin "abs") (fun xs H Q => ∃ i, xs = [.int i] ∧ Q (.int (if i < 0 then -i else i)) H) := by
  intro pins s σ H xs us Q I r h
  obtain ⟨i, rfl, q⟩ := h
  obtain ⟨u, rfl, t, rfl⟩ := vals1 r
  exact call_abs_int fun u tk => ⟨.int (if i < 0 then -i else i), H, I.tok _, ⟨_, rfl⟩, q⟩
theorem call_max2 (hc : X.calm = true) : CallR X (.builtin "max") (fun xs H Q => ∃ i j, xs = [.int i, .int j] ∧ Q (.int (if j > i then j else i)) H) := by
  intro pins s σ H xs us Q I r h
  obtain ⟨i, j, rfl, q⟩ := h
  obtain ⟨u, w', rfl, ⟨t, rfl⟩, ⟨t', rfl⟩⟩ := vals2 r
  refine max_two_ints (I.ok.hd hc) fun h' tk k => ⟨_, H, I.kept k, ?_, q⟩
  by_cases hj : j > i
  · rw [if_pos hj, if_pos hj]; exact ⟨_, rfl⟩
  · rw [if_neg hj, if_neg hj]; exact ⟨_, rfl⟩
theorem call_min2 (hc : X.calm = true) : CallR X (.builtin "min") (fun xs H Q => ∃ i j, xs = [.int i, .int j] ∧ Q (.int (if j < i then j else i)) H) := by
  intro pins s σ H xs us Q I r h
  obtain ⟨i, j, rfl, q⟩ := h
  obtain ⟨u, w', rfl, ⟨t, rfl⟩, ⟨t', rfl⟩⟩ := vals2 r
  refine min_two_ints (I.ok.hd hc) fun h' tk k => ⟨_, H, I.kept k, ?_, q⟩
  by_cases hj : j < i
  · rw [if_pos hj, if_pos hj]; exact ⟨_, rfl⟩
  · rw [if_neg hj, if_neg hj]; exact ⟨_, rfl⟩
theorem call_divmod : CallR X (.builtin "divmod") (fun xs H Q => ∃ i j, xs = [.int i, .int j] ∧ CDiv i j ∧ ∀ p, H p = none → Q (.ref p) (upd H p (.tup [.int (i / j), .int (i % j)]))) := by
  intro pins s σ H xs us Q I r h
  obtain ⟨i, j, rfl, ⟨h1, h2⟩, q⟩ := h
  obtain ⟨u, w', rfl, ⟨t, rfl⟩, ⟨t', rfl⟩⟩ := vals2 r
  refine divmod_int (by omega) ?_ (.inl (PyProof.noPylong_small (by omega)))
  rw [Int.fdiv_eq_ediv_of_nonneg i (by omega), Int.fmod_eq_emod_of_nonneg i (by omega)]
  have hn : H s.heap.objs.size = none := I.hok.fresh (Nat.le_refl _)
  refine ⟨.ref s.heap.objs.size, _, ?_, rfl, q _ hn⟩
  refine I.laid (fun b o e => Heap.get?_push_of_some _ e) (Nat.le_refl _) ⟨by simp only [List.length_cons, List.length_nil]; rw [sizeLine_eq]; decide, [.int (i / j) s.toks, .int (i % j) (s.toks + 1)], .cons ⟨_, rfl⟩ (.cons ⟨_, rfl⟩ .nil), ?_⟩
  exact ⟨_, Heap.get?_push_size s.heap rfl, rfl, 0, rfl⟩
end
end L2
namespace L2
open PySem PySem.Spec PyProof.Rows
structure ObjM (h : Heap) (x dx C : Addr) (mA : Str → Option Value) : Prop where
  obj : h.get? x = some (PySem.W.instObj C dx)
  ns : h.Ns1 dx mA
  ne : dx ≠ x
theorem lookIn_ns {h : Heap} {dx : Addr} {mA : Str → Option Value} (n : h.Ns1 dx mA) : ∃ od, h.get? dx = some od ∧ ∀ name, PySem.W.lookIn name od = some (mA name) := by
  obtain ⟨o, es, ep, ho, hd, hk, _, hm⟩ := n
  refine ⟨o, ho, fun name => ?_⟩
  have e := hm name
  unfold nsFind findBy at e
  rw [← Array.find?_toList] at e
  unfold PySem.W.lookIn
  rw [hd]
  dsimp only
  split
  · rename_i y q
    rw [q] at e
    exact congrArg some e
  · rename_i q
    rw [q] at e
    have a : es.toList.any (·.refKey) = false := by
      rw [List.any_eq_false]
      intro y hy
      obtain ⟨z, t, hkey⟩ := hk y (Array.mem_toList_iff.mp hy)
      simp [DictEntry.refKey, hkey]
    have a' : ¬ es.toList.any (·.refKey) = true := by rw [a]; exact Bool.false_ne_true
    rw [if_neg a']
    exact congrArg some e
theorem ObjM.look {h : Heap} {x dx C : Addr} {mA : Str → Option Value} (I : ObjM h x dx C mA) : ∃ od, PySem.W.InstAt h x (PySem.W.instObj C dx) C (some od) ∧ ∀ name, PySem.W.lookIn name od = some (mA name) :=
  let ⟨od, ho, hl⟩ := lookIn_ns I.ns
  ⟨od, ⟨I.obj, rfl, rfl, ho⟩, hl⟩
section
variable {prog : Program} {w : World} {A : Around} {E : Value → Shared → Prop} {s : Shared} {K : PySem.W.Frag} {x dx C f : Addr} {mA : Str → Option Value} {name : Str} {v : Value}
end
theorem RelO.some_of {v : V} {o : Option Value} (r : RelO (some v) o) : ∃ u, o = some u ∧ RelV v u := by
  cases o with
  | none => exact (show False from r).elim
  | some u => exact ⟨u, rfl, r⟩
section
variable {P : Program} {w : World} {H H' : Hp} {h h' : Heap} {a C dx : Addr} {fs fs' : List (Str × V)}
theorem ins_get (hok : HOk P w H h) (e : H a = some (.ins C dx fs)) : ∃ mA, ObjM h a dx C mA ∧ (∀ f, RelO (fs.lookup f) (mA f)) ∧ PySem.Within mA (fs.map (·.1)) ∧ fs.length ≤ 1000 ∧ H dx = some (.own a) := by
  obtain ⟨d, z, ne, ob, mA, n, r, q⟩ := (show ObjOk P w H h a (.ins C dx fs) from hok a _ e)
  exact ⟨mA, ⟨ob, n, ne⟩, r, q, z, d⟩
end
structure Cls (K : PySem.W.Frag) (C : Addr) : Prop where
  pg : PySem.W.plainGet K C Str.empty = true
  hd : PySem.W.hasDictIn K C = true
  po : PySem.W.plainOver K C = true
  sa : PySem.W.findIn K (.ref C) "__setattr__" = some (some (.builtin "object.__setattr__"))
theorem Cls.get {K : PySem.W.Frag} {C : Addr} (c : Cls K C) (f : Str) : PySem.W.plainGet K C f = true := c.pg
section
variable {X : Cx} {pins : List (Addr × Obj)} {σ : St} {H : Hp} {s : Shared} {a C dx : Addr} {fs : List (Str × V)} {f : Str} {v : V} {A : Around} {E : Value → Shared → Prop}
end
section
variable {X : Cx} {o e value : Expr} {f : Str} {pos pos' tpos : Pos} {ta tv : TE}
end
section
variable {X : Cx} {pins : List (Addr × Obj)} {σ : St} {H : Hp} {s : Shared} {A : Around} {E : Value → Shared → Prop} {Q : Value → Shared → Prop} {c : Value} {b : Bool}
inductive TyOf (K : PySem.W.Frag) (H : Hp) : V → Value → Prop where
  | non : TyOf K H .non (.type "NoneType")
  | bl (x : Bool) : TyOf K H (.bl x) (.type "bool")
  | int (i : Int) : TyOf K H (.int i) (.type "int")
  | str (x : Str) : TyOf K H (.str x) (.type "str")
  | flt (x : UInt64) : TyOf K H (.flt x) (.type "float")
  | lst {a : Addr} {xs : List V} (e : H a = some (.lst xs)) : TyOf K H (.ref a) (.type "list")
  | frz {a : Addr} {o : Obj} {xs : List V} (e : H a = some (.frz o (.lst xs))) : TyOf K H (.ref a) (.type "list")
  | tup {a : Addr} {xs : List V} (e : H a = some (.tup xs)) : TyOf K H (.ref a) (.type "tuple")
  | dK {a : Addr} {kvs : List (Key × V)} (e : H a = some (.dK kvs)) : TyOf K H (.ref a) (.type "dict")
  | dT {a : Addr} {kvs : List (List Key × V)} (e : H a = some (.dT kvs)) : TyOf K H (.ref a) (.type "dict")
  | ins {a C dx : Addr} {fs : List (Str × V)} (e : H a = some (.ins C dx fs)) (cl : Cls K C) (ha : PySem.W.findIn K (.ref C) "__class__" = some (some (.builtin "object.__class__")))
      (hn : PySem.W.specialIn K (.builtin "object.__class__") "__get__" = some (some (.builtin "getset_descriptor.__get__"))) (htk : PySem.W.takesIn K (.builtin "object.__class__") = some true)
      (hm : PySem.W.mroIn K C (.type "object") = some true) : TyOf K H (.ref a) (.ref C)
theorem isinst_ok {x : V} {u t : Value} (I : Inv X pins σ H s) (rx : RelV x u) (ty : TyOf X.K H x t) (e : PySem.W.kitOne X.K t c = some b) (h : ∀ tk, Q (.bool b) { s with toks := tk }) :
    wpAny (model X.prog X.w) A (call (.builtin "isinstance") [u, c]) Q E s := by
  cases ty with
  | non => cases (show u = Value.none from rx); exact PySem.W.kia_one PySem.W.kitx_none I.kIn True.intro e (fun z => nomatch z) h
  | bl y => cases (show u = Value.bool y from rx); exact PySem.W.kia_one PySem.W.kitx_bool I.kIn True.intro e (fun z => nomatch z) h
  | int i => obtain ⟨t, q⟩ := (show ∃ t, u = Value.int i t from rx); cases q; exact PySem.W.kia_one PySem.W.kitx_int I.kIn True.intro e (fun z => nomatch z) h
  | str y => obtain ⟨t, q⟩ := (show ∃ t, u = Value.str y t from rx); cases q; exact PySem.W.kia_one PySem.W.kitx_str I.kIn True.intro e (fun z => nomatch z) h
  | flt y => obtain ⟨t, q⟩ := (show ∃ t, u = Value.float y t from rx); cases q; exact PySem.W.kia_one PySem.W.kitx_float I.kIn True.intro e (fun z => nomatch z) h
  | @lst a xs ea =>
    cases (show u = Value.ref a from rx)
    obtain ⟨_, _, n, _, h1⟩ := (show ObjOk X.prog X.w H s.heap a (.lst xs) from I.hok a _ ea)
    exact PySem.W.kia_one PySem.W.kitx_list I.kIn ⟨_, h1, rfl⟩ e (fun z => nomatch z) h
  | @frz a ob xs ea =>
    cases (show u = Value.ref a from rx)
    obtain ⟨_, _, _, n, _, h1⟩ := (show ObjOk X.prog X.w H s.heap a (.frz ob (.lst xs)) from I.hok a _ ea)
    exact PySem.W.kia_one PySem.W.kitx_list I.kIn ⟨_, h1, rfl⟩ e (fun z => nomatch z) h
  | @tup a xs ea =>
    cases (show u = Value.ref a from rx)
    obtain ⟨_, _, _, p⟩ := (show ObjOk X.prog X.w H s.heap a (.tup xs) from I.hok a _ ea)
    obtain ⟨o, h1, h2, _⟩ := p
    exact PySem.W.kia_one PySem.W.kitx_tuple I.kIn ⟨o, h1, h2⟩ e (fun z => nomatch z) h
  | @dK a kvs ea =>
    cases (show u = Value.ref a from rx)
    obtain ⟨_, _, vs, _, p⟩ := (show ObjOk X.prog X.w H s.heap a (.dK kvs) from I.hok a _ ea)
    obtain ⟨o, es, ep, h1, h2, _⟩ := p
    exact PySem.W.kia_one PySem.W.kitx_dict I.kIn ⟨o, h1, h2.1⟩ e (fun z => nomatch z) h
  | @dT a kvs ea =>
    cases (show u = Value.ref a from rx)
    obtain ⟨_, _, xs, _, o, es, ep, h1, h2, _⟩ := (show ObjOk X.prog X.w H s.heap a (.dT kvs) from I.hok a _ ea)
    exact PySem.W.kia_one PySem.W.kitx_dict I.kIn ⟨o, h1, h2.1⟩ e (fun z => nomatch z) h
  | @ins a C dx fs ea cl ha hn htk hm =>
    cases (show u = Value.ref a from rx)
    obtain ⟨mA, O, _⟩ := ins_get I.hok ea
    obtain ⟨od, J, _⟩ := O.look
    exact PySem.W.kia_one (PySem.W.kitx_own (cl.get _) cl.hd ha hn htk hm) I.kIn J e (fun z => nomatch z) h
end
end L2
namespace L2
open PySem PySem.Spec PyProof.Rows
structure Room (k : Nat) (A : Around) : Prop where
  hd : A.handled = none
  dp : A.depth + 3 * k + 5 < recursionLimit
  un : A.units + 16 * k + 200 < cLine
theorem Room.mono {j k : Nat} {A : Around} (r : Room k A) (h : j ≤ k) : Room j A := ⟨r.hd, by have := r.dp; omega, by have := r.un; omega⟩
theorem Room.deeper {k : Nat} {A : Around} (r : Room (k + 1) A) (env : Env) : Room k (A.deeper env) :=
  ⟨r.hd, by have := r.dp; show A.depth + 1 + 3 * k + 5 < _; omega, by have := r.un; show A.units + 3 + 16 * k + 200 < _; omega⟩
theorem Room.depth {k : Nat} {A : Around} (r : Room k A) : A.depth < recursionLimit := by have := r.dp; omega
theorem Room.units {k : Nat} {A : Around} (r : Room k A) : A.units + 64 < cLine := by have := r.un; omega
theorem Room.units0 {k : Nat} {A : Around} (r : Room k A) : A.units < cLine := by have := r.un; omega
noncomputable def tNil : TA := fun _ H Q => Q [] H
noncomputable def tCons (ta : TE) (tr : TA) : TA := fun σ H Q => ta σ H fun x H1 => tr σ H1 fun xs H2 => Q (x :: xs) H2
section
variable {X : Cx} {e : Expr} {es : List Expr} {te : TE} {t : TA} {pos : Pos}
theorem pa_nil : PA X [] tNil := fun _ _ _ _ H Q I h => Calls.spliced_nil ⟨[], H, I, .nil, h⟩
theorem pa_cons (ha : PE X e te) (hr : PA X es t) (hs : starEach (e :: es) X.env = (false, eval e X.env) :: starEach es X.env := by rfl) : PA X (e :: es) (tCons te t) := by
  intro pos pins s σ H Q I h
  rw [hs]
  show wpAny _ _ (spliced ((false, eval e X.env) :: backTo pos (starEach es X.env))) _ _ s
  refine Calls.spliced_cons (thn (ha pins s σ H _ I h) fun u s1 ⟨x, H1, I1, r1, q1⟩ => ?_)
  exact thn (hr pos pins s1 σ H1 _ I1 q1) fun us s2 ⟨xs, H2, I2, r2, q2⟩ => ⟨x :: xs, H2, I2, .cons r1 r2, q2⟩
noncomputable def tTup (t : TA) : TE := fun σ H Q => t σ H fun xs H1 => xs.length ≤ sizeLine ∧ ∀ p, H1 p = none → Q (.ref p) (upd H1 p (.tup xs))
noncomputable def tLst (t : TA) : TE := fun σ H Q => t σ H fun xs H1 => xs.length ≤ sizeLine ∧ ∀ p, H1 p = none → Q (.ref p) (upd H1 p (.lst xs))
theorem pe_tup {x1} (h : PA X es t) : PE X (.Tuple es x1 pos) (tTup t) := by
  intro pins s σ H Q I hq
  refine wpAny_Tuple_spliced (thn (h pos pins s σ H _ I hq) fun us s1 ⟨xs, H1, I1, r, z, q⟩ => ⟨by rw [← r.length]; exact z, ?_⟩)
  have hf : H1 s1.heap.objs.size = none := I1.hok.fresh (Nat.le_refl _)
  refine ⟨.ref s1.heap.objs.size, upd H1 s1.heap.objs.size (.tup xs), I1.laid (t' := s1.toks) (fun b u e => Heap.get?_push_of_some _ e) (Nat.le_refl _) ?_, rfl, q _ hf⟩
  exact ⟨z, us, r, ⟨_, Heap.get?_push_size _ rfl, rfl, _, rfl⟩⟩
theorem pe_lst (h : PA X es t) : PE X (.List es pos) (tLst t) := by
  intro pins s σ H Q I hq
  refine wpAny_List_spliced (thn (h pos pins s σ H _ I hq) fun us s1 ⟨xs, H1, I1, r, z, q⟩ => ⟨by rw [← r.length]; exact z, ?_⟩)
  have hf : H1 s1.heap.objs.size = none := I1.hok.fresh (Nat.le_refl _)
  refine ⟨.ref s1.heap.objs.size, upd H1 s1.heap.objs.size (.lst xs), I1.laid (t' := s1.toks) (fun b u e => Heap.get?_push_of_some _ e) (Nat.le_refl _) ?_, rfl, q _ hf⟩
  exact ⟨z, us, 0, r, Heap.get?_push_size _ rfl⟩
end
noncomputable abbrev Sp := List V → Hp → VK → XK → Prop
noncomputable abbrev CXT := List Env → Hp → Shared → XK → Value → Shared → Prop
structure Env0 (P : Program) (w : World) (K : PySem.W.Frag) (mg : Str → Option Value) (base : Heap) (A : Around) (outer : List Env) (s : Shared) (H : Hp) : Prop where
  frames : A.frames = some outer
  mod : Mod K mg base
  bs : ∀ b o, base.get? b = some o → s.heap.get? b = some o ∧ H b = none
  bsz : base.objs.size ≤ s.heap.objs.size
  funs : s.heap.FunFrames base outer
  frf : ∀ b ∈ frs outer, H b = none
  hok : HOk P w H s.heap
  bare : AllBare s.gens
noncomputable def CE (outer : List Env) (P : Program) (w : World) (H : Hp) (s : Shared) (Q : VK) (u : Value) (s' : Shared) : Prop :=
  ∃ v H', s'.os = s.os ∧ AllBare s'.gens ∧ Un (frs outer) [] H H' s.heap s'.heap ∧ HOk P w H' s'.heap ∧ RelV v u ∧ Q v H'
noncomputable def CR (CX : CXT) (outer : List Env) (P : Program) (w : World) (H : Hp) (s : Shared) (Q : VK) (E : XK) (r : Result) (s' : Shared) : Prop :=
  match r with
  | .ok (.ret u) => CE outer P w H s Q u s'
  | .ok _ => False
  | .error e => CX outer H s E e s'
structure FnOk (P : Program) (w : World) (K : PySem.W.Frag) (mg : Str → Option Value) (base : Heap) (CX : CXT) (k : Nat) (f : Addr) (fd : FuncData) (ps : List Str) (sp : Sp) : Prop where
  len : ∀ vs H Q E, sp vs H Q E → vs.length = ps.length
  run : ∀ (A : Around) (outer : List Env) (s : Shared) (H : Hp) (args : Args) (us : List Value) (vs : List V) (Q : VK) (E : XK), Room k A → Env0 P w K mg base A outer s H → BindsTo s fd args (ps.zip us) → Vals vs us → sp vs H Q E →
    codeAny (model P w) A (.call (.ref f) args) (CR CX outer P w H s Q E) s
theorem FnOk.mono {P : Program} {w : World} {K : PySem.W.Frag} {mg : Str → Option Value} {base : Heap} {CX : CXT} {j k : Nat} {f : Addr} {fd : FuncData} {ps : List Str} {sp : Sp} (F : FnOk P w K mg base CX j f fd ps sp) (h : j ≤ k) :
    FnOk P w K mg base CX k f fd ps sp := ⟨F.len, fun A outer s H args us vs Q E hr => F.run A outer s H args us vs Q E (hr.mono h)⟩
section
variable {X : Cx} {pins : List (Addr × Obj)} {σ : St} {H : Hp} {s s' : Shared}
theorem Inv.env0 (I : Inv X pins σ H s) : Env0 X.prog X.w X.K X.mg X.base X.A X.stack s H :=
  ⟨I.ok.frames, I.ok.mod, I.bs, Nat.le_trans I.ok.bsz I.sz, I.stack, I.stkFree, I.hok, I.bare⟩
theorem Inv.after {Q : VK} {u : Value} (I : Inv X pins σ H s) (h : CE X.stack X.prog X.w H s Q u s') : EP X pins σ Q u s' := by
  obtain ⟨v, H', os, bare, un, hok, r, q⟩ := h
  obtain ⟨hh, g, d, t, os'⟩ := s'
  obtain rfl : os' = s.os := os
  exact ⟨v, H', I.call (h' := hh) (g' := g) (d' := d) (t' := t) (ch := []) un hok bare (fun b z => absurd z (by simp)), r, q⟩
end
noncomputable def tCall (sp : Sp) (dvs : List V) (E : XK) (t : TA) : TE := fun σ H Q => t σ H fun vs H1 => sp (vs ++ dvs) H1 Q E
noncomputable def Binds (K : PySem.W.Frag) (fd : FuncData) (ps : List Str) (ds : List Value) : Prop :=
  ∀ (s : Shared) (us : List Value), K.In s.heap → (us ++ ds).length = ps.length → BindsTo s fd ⟨us, []⟩ (ps.zip (us ++ ds))
theorem Binds.all {K : PySem.W.Frag} {fd : FuncData} {ps : List Str} (h : ∀ us : List Value, us.length = ps.length → bindArgs fd ⟨us, []⟩ = pure (ps.zip us)) : Binds K fd ps [] := fun s us _ hl => by
  rw [List.append_nil] at hl ⊢
  exact .of_eq (h us hl)
noncomputable def Passes (CX : CXT) (X : Cx) (E : XK) : Prop := ∀ (pins : List (Addr × Obj)) (σ : St) (H : Hp) (s : Shared) (e : Value) (s' : Shared), Inv X pins σ H s → CX X.stack H s E e s' → X.xe e s'
section
variable {X : Cx} {CX : CXT} {k : Nat} {f C : Addr} {fd : FuncData} {ps : List Str} {sp : Sp} {dvs : List V} {ds : List Value} {E : XK} {x m : Str} {p pos apos : Pos} {e o : Expr} {es : List Expr} {ta : TE} {t : TA}
theorem run_fn {pins : List (Addr × Obj)} {σ : St} {H : Hp} {s : Shared} {Q : VK} {us : List Value} {vs : List V} (F : FnOk X.prog X.w X.K X.mg X.base CX k f fd ps sp) (hr : Room k X.A) (hb : Binds X.K fd ps ds) (hd : Vals dvs ds) (hx : Passes CX X E)
    (I : Inv X pins σ H s) (r : Vals vs us) (h : sp (vs ++ dvs) H Q E) : wpAny (model X.prog X.w) X.A (call (.ref f) us) (EP X pins σ Q) X.xe s := by
  have r2 : Vals (vs ++ dvs) (us ++ ds) := r.append hd
  have hl : (us ++ ds).length = ps.length := by rw [← r2.length]; exact F.len _ _ _ _ h
  refine wpAny_call (codeAny_mono (F.run X.A X.stack s H ⟨us, []⟩ (us ++ ds) (vs ++ dvs) Q E hr I.env0 (hb s us I.kIn hl) r2 h) fun r s' hq => ?_)
  cases r with
  | error e => exact hx pins σ H s e s' I hq
  | ok fl =>
    cases fl with
    | ret u => exact I.after hq
    | next => exact False.elim hq
    | brk => exact False.elim hq
    | cont => exact False.elim hq
theorem pe_call (F : FnOk X.prog X.w X.K X.mg X.base CX k f fd ps sp) (hr : Room k X.A) (hg : Gl X x) (hm : X.mg x = some (.ref f)) (hk : PySem.W.keepIn X.K (.ref f) = true) (hb : Binds X.K fd ps ds) (hd : Vals dvs ds) (hx : Passes CX X E)
    (ha : PA X (e :: es) t) (hdb : (x == ("__debug__" : Str)) = false := by decide) (he : starEach (e :: es) X.env = (false, eval e X.env) :: starEach es X.env := by rfl) (hpl : (backTo pos (starEach es X.env)).any (·.1) = false := by rfl) :
    PE X (.Call (.Name x p) (e :: es) [] pos) (tCall sp dvs E t) := by
  intro pins s σ H Q I h
  refine wpAny_Call_Name_kw (ld_glob I hg hm ?_ hdb)
  refine PySem.W.callWith_K (h₀ := X.base) I.ok.mod.kin hk (thn (ha pos pins s σ H _ I h) fun us s1 ⟨vs, H1, I1, r, q⟩ => ⟨I1.kIn, ?_⟩) he hpl
  exact run_fn F hr hb hd hx I1 r q
end
section
variable {X : Cx} {CX : CXT} {k : Nat} {f C : Addr} {fd : FuncData} {ps ks : List Str} {sp : Sp} {E : XK} {x m : Str} {p pos apos kpos : Pos} {e o : Expr} {es : List Expr} {kws : List Keyword} {te ta : TE} {t tk : TA} {nm : Option Str}
variable {g : List Value → List Value → List Value} {gV : List V → List V → List V}
end
structure FnScope (N P : List Str) (sc : Scope) : Prop where
  kind : sc.kind = .function
  co : sc.isCoroutine = false
  gen : sc.isGenerator = false
  nd : N.Nodup
  pre : N.take P.length = P
  par : ∀ x ∈ P, sc.names.lookup x = some .local ∨ sc.names.lookup x = some .cell
  nofree : ∀ y ∈ sc.names, y.2 ≠ .free
theorem bindL_out {kindOf : Str → Option NameKind} {x : Str} : ∀ {binds : List (Str × Value)} {m : Str → Option Value}, (∀ v, (x, v) ∉ binds) → bindL kindOf binds m x = m x
  | [], _, _ => rfl
  | (n, v) :: r, m, h => by
    unfold bindL
    rw [bindL_out fun w hw => h w (List.mem_cons_of_mem _ hw)]
    split
    · have : x ≠ n := by rintro rfl; exact h v List.mem_cons_self
      simp [this]
    · rfl
theorem bindC_out {kindOf : Str → Option NameKind} {x : Str} : ∀ {binds : List (Str × Value)} {m : Str → Option Value}, (∀ v, (x, v) ∉ binds) → bindC kindOf binds m x = m x
  | [], _, _ => rfl
  | (n, v) :: r, m, h => by
    unfold bindC
    rw [bindC_out fun w hw => h w (List.mem_cons_of_mem _ hw)]
    split
    · rfl
    · have : x ≠ n := by rintro rfl; exact h v List.mem_cons_self
      simp [this]
theorem bindL_get {kindOf : Str → Option NameKind} {x : Str} {v : Value} : ∀ {P : List Str} {vs : List Value} {i : Nat} {m : Str → Option Value}, P.Nodup → P[i]? = some x → vs[i]? = some v → kindOf x = some .local →
    bindL kindOf (P.zip vs) m x = some v
  | [], _, _, _, _, h, _, _ => by simp at h
  | _ :: _, [], _, _, _, _, h, _ => by simp at h
  | p :: P, w :: vs, 0, m, nd, h1, h2, hk => by
    simp at h1 h2; subst h1; subst h2
    show bindL kindOf ((p, w) :: P.zip vs) m p = _
    unfold bindL
    rw [bindL_out fun v hv => (List.nodup_cons.mp nd).1 (List.of_mem_zip hv).1, if_pos hk]
    simp
  | p :: P, w :: vs, i + 1, m, nd, h1, h2, hk => by
    show bindL kindOf ((p, w) :: P.zip vs) m x = _
    unfold bindL
    exact bindL_get (i := i) (List.nodup_cons.mp nd).2 (by simpa using h1) (by simpa using h2) hk
theorem bindC_get {kindOf : Str → Option NameKind} {x : Str} {v : Value} : ∀ {P : List Str} {vs : List Value} {i : Nat} {m : Str → Option Value}, P.Nodup → P[i]? = some x → vs[i]? = some v → kindOf x ≠ some .local →
    bindC kindOf (P.zip vs) m x = some v
  | [], _, _, _, _, h, _, _ => by simp at h
  | _ :: _, [], _, _, _, _, h, _ => by simp at h
  | p :: P, w :: vs, 0, m, nd, h1, h2, hk => by
    simp at h1 h2; subst h1; subst h2
    show bindC kindOf ((p, w) :: P.zip vs) m p = _
    unfold bindC
    rw [bindC_out fun v hv => (List.nodup_cons.mp nd).1 (List.of_mem_zip hv).1, if_neg hk]
    simp
  | p :: P, w :: vs, i + 1, m, nd, h1, h2, hk => by
    show bindC kindOf ((p, w) :: P.zip vs) m x = _
    unfold bindC
    exact bindC_get (i := i) (List.nodup_cons.mp nd).2 (by simpa using h1) (by simpa using h2) hk
noncomputable def start (N : List Str) (vs : List V) : St := vs.map some ++ List.replicate (N.length - vs.length) none
noncomputable def cxOf (CX : CXT) (P : Program) (w : World) (K : PySem.W.Frag) (mg : Str → Option Value) (base : Heap) (N : List Str) (qual : Str) (scope : Scope) (f : Addr) (cd : Value) (A : Around) (outer : List Env) (s : Shared) (H : Hp) (E : XK) : Cx where
  prog := P
  w := w
  K := K
  mg := mg
  base := base
  A := A.deeper (envOfC qual scope s.heap.objs.size f cd)
  N := N
  s₀ := s
  H₀ := H
  env := envOfC qual scope s.heap.objs.size f cd
  outer := outer
  stack := envOfC qual scope s.heap.objs.size f cd :: outer
  ex := []
  calm := true
  fn := fun _ => true
  pn := []
  xe := fun e s' => wpAny (model P w) (A.deeper (envOfC qual scope s.heap.objs.size f cd)) (leaving (envOfC qual scope s.heap.objs.size f cd) e) (fun _ s'' => CX outer H s E e s'') (fun e' s'' => CX outer H s E e' s'') s'
theorem cell_has {sc : Scope} {n : Nat} {x : Str} (h : sc.names.lookup x = some .cell) : ∃ c, (cellsFrom n sc.names []).lookup x = some c := by
  have q := PySem.W.cellsFrom_some sc.names n [] (.inl h)
  exact Option.isSome_iff_exists.mp q
theorem inv_start {CX : CXT} {P : Program} {w : World} {K : PySem.W.Frag} {mg : Str → Option Value} {base : Heap} {N ps : List Str} {qual : Str} {scope : Scope} {f : Addr} {cd : Value} {A : Around} {outer : List Env} {s s1 : Shared} {H : Hp} {E : XK} {us : List Value} {vs : List V}
    (S : FnScope N ps scope) (hd : A.handled = none) (e0 : Env0 P w K mg base A outer s H) (hl : vs.length = ps.length) (r : Vals vs us)
    (x : InCallC s s.heap.objs.size (bindL (envOfC qual scope s.heap.objs.size f cd).kindOf (ps.zip us) fun _ => none) (cellsFrom (s.heap.objs.size + 1) scope.names []) (bindC (envOfC qual scope s.heap.objs.size f cd).kindOf (ps.zip us) fun _ => none) s1) :
    Inv (cxOf CX P w K mg base N qual scope f cd A outer s H E) [] (start N vs) H s1 := by
  have hpl : ps.length ≤ N.length := by have := congrArg List.length S.pre; rw [List.length_take] at this; omega
  obtain ⟨h1, tk, rfl, hk⟩ := x.done
  have noA : ∀ b : Addr, b ∉ (cxOf CX P w K mg base N qual scope f cd A outer s H E).ex := fun b z => absurd (show b ∈ ([] : List Addr) from z) (by simp)
  refine ⟨⟨e0.mod, S.kind, rfl, rfl, Nat.le_refl _, fun y z c h1 h2 => ?_, fun y hy => ?_, fun y c _ h => ?_, fun _ => hd, Around.frames_deeper e0.frames, .inr ⟨rfl, rfl⟩, fun b z => absurd z (noA b), e0.bs, e0.bsz, fun b _ _ => noA b, fun b z => absurd z (noA b), e0.funs, e0.frf⟩,
    rfl, e0.bare, Un.kept hk, ⟨_, x.toInCall.ns, fun i y v h1 h2 h3 => ?_⟩, fun y c h => ⟨_, x.cell y c h⟩, e0.hok.fresh (Nat.le_refl _), fun y c h => ?_, fun p hp => absurd (show p ∈ ([] : List (Addr × Obj)) from hp) (by simp), e0.hok.kept hk, ?_⟩
  · exact name_of_addr x.apart (PySem.mem_of_lookup h1) (PySem.mem_of_lookup h2)
  · have hy : scope.names.lookup y = some .cell ∨ scope.names.lookup y = some .free := hy
    rcases hy with hy | hy
    · exact cell_has hy
    · exact absurd rfl (S.nofree _ (PySem.mem_of_lookup hy))
  · exact Nat.le_of_lt (x.above y c (PySem.mem_of_lookup h))
  · have hi : i < vs.length := by
      unfold start at h2
      by_cases hi : i < vs.length
      · exact hi
      · rw [List.getElem?_append_right (by simpa using hi)] at h2
        rw [List.getElem?_replicate] at h2
        split at h2 <;> cases h2
    have ha : vs[i]? = some v := by
      unfold start at h2
      rw [List.getElem?_append_left (by simpa using hi), List.getElem?_map] at h2
      cases e : vs[i]? with
      | none => rw [e] at h2; cases h2
      | some a => rw [e] at h2; cases h2; rfl
    obtain ⟨u, hu, rv⟩ := r.get ha
    have hp : ps[i]? = some y := by
      rw [← S.pre, List.getElem?_take_of_lt (by omega)]; exact h1
    have ndP : ps.Nodup := by rw [← S.pre]; exact S.nd.sublist (List.take_sublist _ _)
    refine ⟨u, rv, ?_⟩
    rcases S.par y (List.mem_of_getElem? hp) with k | k
    · exact .inl ⟨k, bindL_get ndP hp hu k⟩
    · obtain ⟨c, e⟩ := cell_has (n := s.heap.objs.size + 1) k
      refine .inr ⟨.inl k, c, e, ?_⟩
      have q := x.cell y c e
      rw [bindC_get ndP hp hu (by show scope.names.lookup y ≠ _; rw [k]; decide)] at q
      exact q
  · exact e0.hok.fresh (Nat.le_of_lt (x.above y c (PySem.mem_of_lookup h)))
  · unfold start
    show _ = N.length
    rw [List.length_append, List.length_map, List.length_replicate]
    omega
theorem fn_of {CX : CXT} {P : Program} {w : World} {K : PySem.W.Frag} {mg : Str → Option Value} {base : Heap} {k : Nat} {f : Addr} {name qual : Str} {params : Arguments} {body : List Stmt} {scope : Scope} {dV kV doc pm cdv ct oc : Value} {an od : Option Addr}
    {osl : Array (Option Value)} {N ps : List Str} {sp : Sp} (lk : K.lookup f = some ⟨oc, od, .func (PySem.W.fnOf name qual params body scope dV kV doc pm an cdv ct), osl⟩) (hcd : PySem.W.codeIn K cdv qual = true) (S : FnScope N ps scope)
    (len : ∀ vs H Q E, sp vs H Q E → vs.length = ps.length)
    (hbody : ∀ (A : Around) (outer : List Env) (s : Shared) (H : Hp) (vs : List V) (Q : VK) (E : XK), Room k (A.deeper (envOfC qual scope s.heap.objs.size f cdv)) → sp vs H Q E →
      ∃ t, PSs (cxOf CX P w K mg base N qual scope f cdv A outer s H E) body t ∧ t { nx := fun _ H' => Q .non H', rt := Q } (start N vs) H) :
    FnOk P w K mg base CX (k + 1) f (PySem.W.fnOf name qual params body scope dV kV doc pm an cdv ct) ps sp := by
  refine ⟨len, fun A outer s H args us vs Q E hr e0 hb r hsp => ?_⟩
  have hl := len _ _ _ _ hsp
  have KX : K.In s.heap := e0.mod.kin.keeps fun b o e => (e0.bs b o e).1
  have lim : s.heap.NoLimit := e0.mod.nolimit.keeps fun b o e => (e0.bs b o e).1
  have hkind : ∀ y ∈ ps.zip us, scope.names.lookup y.1 = some .local ∨ (scope.names.lookup y.1 = some .cell ∧ ((cellsFrom (s.heap.objs.size + 1) scope.names []).lookup y.1).isSome = true) := fun ⟨n, v⟩ hy => by
    rcases S.par n (List.of_mem_zip hy).1 with q | q
    · exact .inl q
    · exact .inr ⟨q, PySem.W.cellsFrom_some _ _ _ (.inl q)⟩
  refine codeAny_call_function hr.depth (KX _ _ lk) rfl S.co S.gen rfl (PySem.W.codeRec_of KX hcd) (hb _ _ _ _ ?_)
  refine wpAny_newFunctionEnv_cells S.kind hkind fun env he s1 x => ?_
  subst he
  refine ⟨lim.keeps x.toInCall.keep, codeAny_func ?_⟩
  obtain ⟨t, ht, hq⟩ := hbody A outer s H vs Q E (hr.deeper _) hsp
  have I : Inv (cxOf CX P w K mg base N qual scope f cdv A outer s H E) [] (start N vs) H s1 := inv_start S hr.hd e0 hl r x
  refine wpAny_mono (ht [] s1 (start N vs) H _ I hq) (fun fl s' hs => ?_) fun e s' hs => hs
  have fin : ∀ {σ' : St} {H' : Hp} {v : V} {u : Value}, Inv (cxOf CX P w K mg base N qual scope f cdv A outer s H E) [] σ' H' s' → RelV v u → Q v H' → CE outer P w H s Q u s' :=
    fun {σ' H' v u} J rv q => ⟨v, H', J.os, J.bare, J.base, J.hok, rv, q⟩
  cases fl with
  | ret u =>
    obtain ⟨v, σ', H', J, rv, q⟩ := hs
    exact fin J rv q
  | next =>
    obtain ⟨σ', H', J, q⟩ := hs
    exact fin (v := V.non) (u := Value.none) J rfl q
  | brk =>
    obtain ⟨_, _, _, q⟩ := hs
    exact False.elim q
  | cont =>
    obtain ⟨_, _, _, q⟩ := hs
    exact False.elim q
end L2
namespace L2
open PySem PySem.Spec PyProof.Rows
section
variable {X : Cx} {x : Str} {p pos : Pos} {e : Expr} {es : List Expr} {t : TA} {id T : String} {r : List V → Hp → VK → Prop}
noncomputable def tCB (r : List V → Hp → VK → Prop) (t : TA) : TE := fun σ H Q => t σ H fun vs H1 => r vs H1 Q
theorem pe_callB (hc : CallR X (.builtin id) r) (hg : Gl X x) (hm : X.mg x = none) (hv : bootBuiltins x = some (.builtin id)) (ha : PA X (e :: es) t) (hn : x ≠ "__name__" := by decide) (hdb : (x == ("__debug__" : Str)) = false := by decide)
    (he : starEach (e :: es) X.env = (false, eval e X.env) :: starEach es X.env := by rfl) (hpl : (backTo pos (starEach es X.env)).any (·.1) = false := by rfl) : PE X (.Call (.Name x p) (e :: es) [] pos) (tCB r t) := by
  intro pins s σ H Q I h
  refine wpAny_Call_Name_kw (ld_blt I hg hm hv ?_ hn hdb)
  exact PyProof.Rows.callWith_builtin1 (thn (ha pos pins s σ H _ I h) fun us s1 ⟨vs, H1, I1, r1, q1⟩ => hc pins s1 σ H1 vs us Q I1 r1 q1) he hpl
theorem pe_callTy (hc : CallR X (.type T) r) (hg : Gl X x) (hm : X.mg x = none) (hv : bootBuiltins x = some (.type T)) (ha : PA X (e :: es) t) (hn : x ≠ "__name__" := by decide) (hdb : (x == ("__debug__" : Str)) = false := by decide)
    (he : starEach (e :: es) X.env = (false, eval e X.env) :: starEach es X.env := by rfl) (hpl : (backTo pos (starEach es X.env)).any (·.1) = false := by rfl) : PE X (.Call (.Name x p) (e :: es) [] pos) (tCB r t) := by
  intro pins s σ H Q I h
  refine wpAny_Call_Name_kw (ld_blt I hg hm hv ?_ hn hdb)
  exact PyProof.Rows.callWith_type1 (thn (ha pos pins s σ H _ I h) fun us s1 ⟨vs, H1, I1, r1, q1⟩ => hc pins s1 σ H1 vs us Q I1 r1 q1) he hpl
end
end L2
namespace HT
open PySem PyProof.Rows
section
open PySem.SeqAt
open PySem.AutoSeq1 (wpAny_loadPart')
open PySem.MeetsSeq PySem.MeetsSeq2 PySem.MeetsSeq3
end
section
variable {prog : Program} {w : World} {A : Around} {E : Value → Shared → Prop} {s : Shared}
theorem cat_tup {t b : Addr} {vs ws : List Value} {Q : Value → Shared → Prop} (ht : IsTup s.heap t vs.toArray) (hb : IsTup s.heap b ws.toArray) (hv : vs ≠ [])
    (h1 : ws = [] → Q (.ref t) s) (h2 : ws ≠ [] → Q (.ref s.heap.objs.size) { s with heap := s.heap.push { cls := .type "tuple", data := .seq (vs ++ ws).toArray } })
    (hsz : vs.length + ws.length ≤ sizeLine) : wpAny (model prog w) A (binaryOp .Add (.ref t) (.ref b)) Q E s := by
  obtain ⟨⟨cls, dd, data, sl⟩, ho, hc, n, hd⟩ := id ht
  obtain ⟨⟨cls2, dd2, data2, sl2⟩, ho2, hc2, n2, hd2⟩ := id hb
  simp only at hc hd hc2 hd2
  subst hc hd hc2 hd2
  have e : vs.toArray ++ ws.toArray = (vs ++ ws).toArray := by simp
  by_cases hw : ws = []
  · exact concat_meets ⟨_, ho, rfl⟩ ⟨_, ho2, rfl⟩ noFill_tuple_add seq_tuple_add PySem.F.slot_tuple_add PySem.F.entry_tuple_add (PySem.F.args_tuple_add_2 _ _)
      (tuple_addW1 t b vs.toArray ws.toArray n n2 dd dd2 sl sl2 (by simpa using hv) (by simp [hw])) ⟨ho, ho2, h1 hw⟩
  · refine concat_meets ⟨_, ho, rfl⟩ ⟨_, ho2, rfl⟩ noFill_tuple_add seq_tuple_add PySem.F.slot_tuple_add PySem.F.entry_tuple_add (PySem.F.args_tuple_add_2 _ _)
      (tuple_addW2 t b vs.toArray ws.toArray n n2 dd dd2 sl sl2 (by simpa using hv) (by simpa using hw) (by rw [List.size_toArray, List.size_toArray]; exact hsz)) ⟨ho, ho2, ?_⟩
    rw [e]
    exact h2 hw
noncomputable def sIx (n d : Nat) : Option Int → Nat
  | none => d
  | some v => if v < 0 then (v + (n : Int)).toNat else min v.toNat n
theorem sIx_none (n d : Nat) : sIx n d none = d := rfl
theorem sIx_nat (n d k : Nat) : sIx n d (some (k : Int)) = min k n := by
  show (if (k : Int) < 0 then ((k : Int) + (n : Int)).toNat else min (k : Int).toNat n) = min k n
  rw [if_neg (by omega), Int.toNat_natCast]
theorem sIx_le (n d : Nat) (hd : d ≤ n) (o : Option Int) : sIx n d o ≤ n := by
  cases o with
  | none => exact hd
  | some v =>
    show (if v < 0 then (v + (n : Int)).toNat else min v.toNat n) ≤ n
    by_cases hv : v < 0
    · rw [if_pos hv]; omega
    · rw [if_neg hv]; exact Nat.min_le_right _ _
theorem clip_eq (v : Int) (n d : Nat) : (if v < 0 then max (v + (n : Int)) 0 else min v (n : Int)) = ((sIx n d (some v) : Nat) : Int) := by
  show (if v < 0 then max (v + (n : Int)) 0 else min v (n : Int)) = (((if v < 0 then (v + (n : Int)).toNat else min v.toNat n) : Nat) : Int)
  by_cases hv : v < 0
  · simp only [if_pos hv]; omega
  · simp only [if_neg hv]; omega
theorem adjust_gen (lo hi : Option Int) (n : Nat) : Builtin.Slice.sliceAdjust lo hi 1 (n : Int) = (((sIx n 0 lo : Nat) : Int), ((sIx n n hi : Nat) : Int)) := by
  have h1 : ¬ ((1 : Int) < 0) := by omega
  unfold Builtin.Slice.sliceAdjust
  simp only [h1, if_false]
  refine Prod.ext ?_ ?_
  · cases lo with
    | none => rfl
    | some v => exact clip_eq v n 0
  · cases hi with
    | none => rfl
    | some v => exact clip_eq v n n
theorem places_gen (i j : Nat) : Builtin.Slice.slicePlaces (i : Int) (j : Int) 1 = j - i := by
  unfold Builtin.Slice.slicePlaces
  have h1 : (1 : Int) > 0 := by omega
  simp only [h1, if_true, Int.ediv_one]
  split <;> omega
theorem slicePart_ {v : Value} {o : Option Int} {Q : Option Int → Shared → Prop} (p : IsPart v o) (h : Q o s) : wpAny (model prog w) A (Builtin.Slice.slicePartIndex v) Q E s := by
  cases p with
  | none => exact slicePart_none h
  | int i t => exact slicePart_int h
theorem sliceApplied_gen {sl : Addr} {vl vu : Value} {lo hi : Option Int} {n : Nat} {Q : Int × Int × Nat → Shared → Prop} (hs : s.heap.IsSliceOf sl vl vu .none) (pl : IsPart vl lo) (pu : IsPart vu hi)
    (h : Q (((sIx n 0 lo : Nat) : Int), 1, sIx n n hi - sIx n 0 lo) s) : wpAny (model prog w) A (Builtin.Slice.sliceApplied (.ref sl) (pure (n : Int))) Q E s := by
  obtain ⟨os, hos, hcs, hds⟩ := id hs
  unfold Builtin.Slice.sliceApplied Builtin.Slice.sliceFields
  refine wpAny_bind (wpAny_bind (wpAny_field hos hds (x := vl) rfl (wpAny_bind (wpAny_field hos hds (x := vu) rfl (wpAny_bind (wpAny_field hos hds (x := .none) rfl (wpAny_pure ?_)))))))
  refine wpAny_bind (slicePart_none ?_)
  show wpAny _ _ (if ((1 : Int) == 0) = true then _ else _) _ _ s
  rw [if_neg (by decide)]
  refine wpAny_bind (slicePart_ pl (wpAny_bind (slicePart_ pu (wpAny_bind (wpAny_pure ?_)))))
  show wpAny _ _ (match Builtin.Slice.sliceAdjust lo hi 1 (n : Int) with | (lo, hi) => pure (lo, (1 : Int), Builtin.Slice.slicePlaces lo hi 1)) _ _ s
  rw [adjust_gen lo hi n]
  show wpAny _ _ (pure (((sIx n 0 lo : Nat) : Int), (1 : Int), Builtin.Slice.slicePlaces ((sIx n 0 lo : Nat) : Int) ((sIx n n hi : Nat) : Int) 1)) _ _ s
  rw [places_gen]
  exact wpAny_pure h
theorem pick_gen (xs : Array Value) (i k : Nat) : ((List.range k).filterMap fun (m : Nat) => xs[((i : Int) + (m : Int) * 1).toNat]?).toArray = ((xs.toList.drop i).take k).toArray := by
  have e : (fun (m : Nat) => xs[((i : Int) + (m : Int) * 1).toNat]?) = fun m => xs[i + m]? := by
    funext m
    have : ((i : Int) + (m : Int) * 1).toNat = i + m := by omega
    rw [this]
  rw [e]
  have := pick_run xs i k
  rw [List.filterMap_map] at this
  have e2 : ((fun x => xs[x]?) ∘ fun x => i + x) = fun m => xs[i + m]? := rfl
  rw [e2] at this
  rw [this]
theorem getItem_tuple_cut {t sl : Addr} {items : Array Value} {vl vu : Value} {lo hi : Option Int} {Q : Value → Shared → Prop} (ht : IsTup s.heap t items) (hs : s.heap.IsSliceOf sl vl vu .none) (pl : IsPart vl lo) (pu : IsPart vu hi)
    (hw : ¬ (sIx items.size 0 lo = 0 ∧ sIx items.size items.size hi = items.size))
    (h : Q (.ref s.heap.objs.size) { s with heap := s.heap.push { cls := .type "tuple", data := .seq ((items.toList.drop (sIx items.size 0 lo)).take (sIx items.size items.size hi - sIx items.size 0 lo)).toArray } })
    (hsz : items.size ≤ sizeLine) : wpAny (model prog w) A (getItem (.ref t) (.ref sl)) Q E s := by
  have htake : sizeOk (.seq ((items.toList.drop (sIx items.size 0 lo)).take (sIx items.size items.size hi - sIx items.size 0 lo)).toArray) := by
    show ((items.toList.drop (sIx items.size 0 lo)).take (sIx items.size items.size hi - sIx items.size 0 lo)).toArray.size ≤ sizeLine
    rw [List.size_toArray, List.length_take, List.length_drop, Array.length_toList]
    omega
  have hj : sIx items.size items.size hi ≤ items.size := sIx_le _ _ (Nat.le_refl _) hi
  obtain ⟨os, hos, hcs, hds⟩ := id hs
  have hTs : s.TypeIs (.ref sl) "slice" := ⟨os, hos, hcs⟩
  unfold getItem
  try with_reducible refine wpAny_holding ?_
  first | refine wpAny_bind (wpAny_pure ?_) | skip
  refine wpAny_bind (wpAny_sequenceKey ht.typeIs (by decide) ?_)
  refine wpAny_bind (wpAny_callSpecial?_slot (name := Str.ofString "__getitem__") ht.typeIs PyProof.Rows.slot_tuple_getitem
    (wpAny_call_entry PyProof.Rows.slot_tuple_getitem ht.typeIs entry_tuple_getitem ?_ (args_tuple_getitem _ _)))
  show wpAny _ _ (Builtin.Tuple.tupleItemsOf (.ref t) >>= _) _ _ s
  refine wpAny_bind (tupleItemsOf_ ht ?_)
  refine wpAny_bind (wpAny_typeOf hTs ?_)
  rw [if_pos (by decide)]
  refine wpAny_bind (sliceApplied_gen hs pl pu ?_)
  have hno : ¬ ((((sIx items.size 0 lo : Nat) : Int) == 0 && (1 : Int) == 1 && (sIx items.size items.size hi - sIx items.size 0 lo) == items.size) = true) := by
    intro q
    rw [Bool.and_eq_true, Bool.and_eq_true] at q
    have q1 : ((sIx items.size 0 lo : Nat) : Int) = 0 := eq_of_beq q.1.1
    have q2 : sIx items.size items.size hi - sIx items.size 0 lo = items.size := eq_of_beq q.2
    exact hw ⟨by omega, by omega⟩
  show wpAny _ _ (if (((sIx items.size 0 lo : Nat) : Int) == 0 && (1 : Int) == 1 && (sIx items.size items.size hi - sIx items.size 0 lo) == items.size) = true then _ else _) _ _ s
  rw [if_neg hno, pick_gen]
  first
    | exact wpAny_bind (m := Builtin.Tuple.tupleExact _) (wpAny_newObj_type (wpAny_pure ⟨_, rfl, wpAny_pure h⟩) htake)
    | exact wpAny_bind (m := Builtin.Tuple.tupleExact _) (wpAny_newObj_type (wpAny_bind (wpAny_pure (wpAny_pure ⟨_, rfl, wpAny_pure h⟩))) htake)
    | exact wpAny_bind (wpAny_bind (m := Builtin.Tuple.tupleExact _) (wpAny_newObj_type (wpAny_pure (wpAny_pure ⟨_, rfl, wpAny_pure h⟩)) htake))
    | exact wpAny_bind (wpAny_bind (m := Builtin.Tuple.tupleExact _) (wpAny_newObj_type (wpAny_pure ⟨_, rfl, wpAny_pure h⟩) htake))
end
end HT
namespace L2
open PySem PySem.Spec PyProof.Rows
noncomputable abbrev TO := St → Hp → (Option Int → Hp → Prop) → Prop
noncomputable def PO (X : Cx) (e : Option Expr) (t : TO) : Prop :=
  ∀ (pins : List (Addr × Obj)) (s : Shared) (σ : St) (H : Hp) (Q : Option Int → Hp → Prop), Inv X pins σ H s → t σ H Q →
    wpAny (model X.prog X.w) X.A (evalPart e X.env) (fun u s' => ∃ o H', Inv X pins σ H' s' ∧ IsPart u o ∧ Q o H') X.xe s
noncomputable def tNoPart : TO := fun _ H Q => Q none H
section
variable {X : Cx} {e : Expr} {te : TE} {lo hi : Option Expr} {tl th : TO} {pos p2 : Pos}
theorem po_none : PO X none tNoPart := by
  intro pins s σ H Q I h
  rw [evalPart_none]
  exact wpAny_pure ⟨none, H, I, .none, h⟩
noncomputable def SlR (X : Cx) (r : V → Option Int → Option Int → Hp → VK → Prop) : Prop :=
  ∀ (pins : List (Addr × Obj)) (s : Shared) (σ : St) (H : Hp) (x : V) (v vl vu : Value) (lo hi : Option Int) (sl : Addr) (Q : VK), Inv X pins σ H s → RelV x v → s.heap.IsSliceOf sl vl vu .none → IsPart vl lo → IsPart vu hi → r x lo hi H Q →
    ∃ T id, typeLookup (.type T) "__getitem__" = pure (some (.builtin id)) ∧ s.TypeIs v T ∧ wpAny (model X.prog X.w) X.A (getItem v (.ref sl)) (EP X pins σ Q) X.xe s
noncomputable def tSl (r : V → Option Int → Option Int → Hp → VK → Prop) (te : TE) (tl th : TO) : TE := fun σ H Q => te σ H fun x H1 => tl σ H1 fun l H2 => th σ H2 fun u H3 => r x l u H3 Q
theorem pe_slice {r : V → Option Int → Option Int → Hp → VK → Prop} (hr : SlR X r) (he : PE X e te) (hl : PO X lo tl) (hu : PO X hi th) : PE X (.Subscript e (.Slice lo hi none p2) pos) (tSl r te tl th) := by
  intro pins s σ H Q I h
  refine Subscript_ (thn (he pins s σ H _ I h) fun v s1 ⟨x, H1, I1, r1, q1⟩ => ?_)
  refine wpAny_Slice (thn (hl pins s1 σ H1 _ I1 q1) fun vl s2 ⟨l, H2, I2, pl, q2⟩ => thn (hu pins s2 σ H2 _ I2 q2) fun vu s3 ⟨u, H3, I3, pu, q3⟩ => ?_)
  rw [evalPart_none]
  refine wpAny_pure ?_
  have I4 : Inv X pins σ H3 { s3 with heap := s3.heap.push { cls := .type "slice", data := .fields #[vl, vu, .none] } } := I3.kept (t' := s3.toks) fun b ob q => Heap.get?_push_of_some _ q
  obtain ⟨T, id, hT, ht, hg⟩ := hr pins { s3 with heap := s3.heap.push { cls := .type "slice", data := .fields #[vl, vu, .none] } } σ H3 x v vl vu l u s3.heap.objs.size Q I4 r1 (Heap.IsSliceOf.new ..) pl pu q3
  show wpAny (model X.prog X.w) X.A (subscriptTail e (.Slice lo hi none p2) v (.ref s3.heap.objs.size)) (EP X pins σ Q) X.xe { s3 with heap := s3.heap.push { cls := .type "slice", data := .fields #[vl, vu, .none] } }
  exact tail_any (ops := [.ref s3.heap.objs.size, v]) ht hT hg (by with_unfolding_all rfl)
noncomputable def cutV (xs : List V) (lo hi : Option Int) : List V := (xs.drop (HT.sIx xs.length 0 lo)).take (HT.sIx xs.length xs.length hi - HT.sIx xs.length 0 lo)
theorem cutV_length (xs : List V) (lo hi : Option Int) : (cutV xs lo hi).length ≤ xs.length := by
  unfold cutV
  rw [List.length_take, List.length_drop]
  omega
noncomputable def rSlT (K : PySem.W.Frag) : V → Option Int → Option Int → Hp → VK → Prop := fun x lo hi H Q => ∃ a xs, x = .ref a ∧ SqT K H a xs ∧
  ¬ (HT.sIx xs.length 0 lo = 0 ∧ HT.sIx xs.length xs.length hi = xs.length) ∧ ∀ p, H p = none → Q (.ref p) (upd H p (.tup (cutV xs lo hi)))
theorem sl_tup : SlR X (rSlT X.K) := by
  intro pins s σ H x v vl vu lo hi sl Q I rx hs pl pu h
  obtain ⟨a, xs, rfl, hx, hw, q⟩ := h
  cases rx
  obtain ⟨its, r, ht, hz⟩ := I.tuple hx
  have hlen : its.toArray.size = xs.length := by rw [List.size_toArray]; exact r.length.symm
  refine ⟨"tuple", _, PyProof.Rows.slot_tuple_getitem.lookup, ht.typeIs, ?_⟩
  refine HT.getItem_tuple_cut ht hs pl pu (by rw [hlen]; exact hw) ?_ (by rw [hlen]; exact hz)
  rw [hlen]
  refine ⟨.ref s.heap.objs.size, _, I.laid (t' := s.toks) (o := .tup (cutV xs lo hi)) (fun b ob q => Heap.get?_push_of_some _ q) (Nat.le_refl _) ?_, rfl, q _ (I.hok.fresh (Nat.le_refl _))⟩
  exact ⟨Nat.le_trans (cutV_length xs lo hi) hz, _, (r.drop (HT.sIx xs.length 0 lo)).take (HT.sIx xs.length xs.length hi - HT.sIx xs.length 0 lo), IsTup.new _ _⟩
noncomputable def rCatT (K : PySem.W.Frag) : R2 := fun x y H Q => ∃ a b xs ys, x = .ref a ∧ y = .ref b ∧ SqT K H a xs ∧ SqT K H b ys ∧ xs ≠ [] ∧ xs.length + ys.length ≤ sizeLine ∧
  (ys = [] → Q (.ref a) H) ∧ (ys ≠ [] → ∀ p, H p = none → Q (.ref p) (upd H p (.tup (xs ++ ys))))
theorem Vals.nil_iff {xs : List V} {us : List Value} (r : Vals xs us) : us = [] ↔ xs = [] := by
  cases r with
  | nil => simp
  | cons _ _ => simp
theorem op_catT : OpR X (binaryOp .Add) (rCatT X.K) := by
  intro pins s σ H x y v u Q I rx ry h
  obtain ⟨a, b, xs, ys, rfl, rfl, ha, hb, hx, hz, q1, q2⟩ := h
  cases rx
  cases ry
  obtain ⟨its, r1, p1, _⟩ := I.tuple ha
  obtain ⟨its2, r2, p2, _⟩ := I.tuple hb
  refine HT.cat_tup p1 p2 (fun z => hx (r1.nil_iff.mp z)) (fun z => ⟨.ref a, H, I, rfl, q1 (r2.nil_iff.mp z)⟩) (fun z => ?_) (by rw [← r1.length, ← r2.length]; exact hz)
  refine ⟨.ref s.heap.objs.size, _, I.laid (t' := s.toks) (o := .tup (xs ++ ys)) (fun b ob q => Heap.get?_push_of_some _ q) (Nat.le_refl _) ?_, rfl, q2 (fun w => z (r2.nil_iff.mpr w)) _ (I.hok.fresh (Nat.le_refl _))⟩
  exact ⟨by rw [List.length_append]; exact hz, _, r1.append r2, IsTup.new _ _⟩
end
end L2
namespace L2
open PySem PySem.Spec PyProof.Rows
noncomputable def ixN (n : Nat) (i : Int) : Option Nat := if 0 ≤ i then (if i < n then some i.toNat else none) else if -(n : Int) ≤ i then some (i + n).toNat else none
noncomputable def atI {α : Type} (xs : List α) (i : Int) : Option α := (ixN xs.length i).bind fun j => xs[j]?
theorem ixN_seq {n : Nat} {i : Int} {j : Nat} (h : ixN n i = some j) : seqIndex? i n = some j ∧ j < n ∧ -(n : Int) ≤ i ∧ i < n := by
  unfold ixN at h
  by_cases h0 : 0 ≤ i
  · rw [if_pos h0] at h
    by_cases h1 : i < n
    · rw [if_pos h1] at h
      have e : i.toNat = j := Option.some.inj h
      exact ⟨by rw [seqIndex_of h0 h1, e], by omega, by omega, h1⟩
    · rw [if_neg h1] at h; cases h
  · rw [if_neg h0] at h
    by_cases h1 : -(n : Int) ≤ i
    · rw [if_pos h1] at h
      have e : (i + n).toNat = j := Option.some.inj h
      exact ⟨by rw [seqIndex_neg (by omega) h1, e], by omega, h1, by omega⟩
    · rw [if_neg h1] at h; cases h
theorem atI_get {α : Type} {xs : List α} {i : Int} {v : α} (h : atI xs i = some v) : ∃ j, seqIndex? i xs.length = some j ∧ xs[j]? = some v ∧ j < xs.length ∧ -(xs.length : Int) ≤ i ∧ i < xs.length := by
  unfold atI at h
  cases e : ixN xs.length i with
  | none => rw [e] at h; cases h
  | some j =>
    rw [e] at h
    obtain ⟨h1, h2, h3, h4⟩ := ixN_seq e
    exact ⟨j, h1, h, h2, h3, h4⟩
theorem atI_nat {α : Type} {xs : List α} {j : Nat} {v : α} (h : xs[j]? = some v) : atI xs (j : Int) = some v := by
  have hj : j < xs.length := (List.getElem?_eq_some_iff.mp h).1
  have e : ixN xs.length (j : Int) = some j := by
    unfold ixN
    rw [if_pos (by omega), if_pos (by omega)]; simp
  unfold atI; rw [e]; exact h
noncomputable def PlainIx (b : Expr) : Prop := ∀ o i, subscripted b false o i = operate [o, i] (getItem o i)
noncomputable def IxR (X : Cx) (r : R2) : Prop :=
  ∀ (value slice : Expr) (pins : List (Addr × Obj)) (s : Shared) (σ : St) (H : Hp) (x y : V) (v u : Value) (Q : VK), Inv X pins σ H s → RelV x v → RelV y u → r x y H Q →
    subscripted slice false v u = operate [v, u] (getItem v u) → wpAny (model X.prog X.w) X.A (subscriptTail value slice v u) (EP X pins σ Q) X.xe s
noncomputable def MtR (X : Cx) (id : String) (r : V → List V → Hp → VK → Prop) : Prop :=
  ∀ (pins : List (Addr × Obj)) (s : Shared) (σ : St) (H : Hp) (x : V) (xs : List V) (v : Value) (us : List Value) (Q : VK), Inv X pins σ H s → RelV x v → Vals xs us → r x xs H Q →
    wpAny (model X.prog X.w) X.A (call (.builtin id) (v :: us)) (EP X pins σ Q) X.xe s
section
variable {X : Cx} {a b : Expr} {ta tb : TE} {pos : Pos}
theorem pe_ix {r : R2} (hr : IxR X r) (ha : PE X a ta) (hb : PE X b tb) (hs : PlainIx b) : PE X (.Subscript a b pos) (tOp r ta tb) := by
  intro pins s σ H Q I h
  exact Subscript_ (binT ha hb I h fun v u s2 x y H2 I2 rx ry q => hr a b pins s2 σ H2 x y v u Q I2 rx ry q (hs _ _))
noncomputable def rIxL (K : PySem.W.Frag) : R2 := fun x y H Q => ∃ p xs i v, x = .ref p ∧ y = .int i ∧ SqL K H p xs ∧ atI xs i = some v ∧ Q v H
noncomputable def rIxT (K : PySem.W.Frag) : R2 := fun x y H Q => ∃ p xs i v, x = .ref p ∧ y = .int i ∧ SqT K H p xs ∧ atI xs i = some v ∧ Q v H
noncomputable def rIxS : R2 := fun x y H Q => ∃ z i c, x = .str z ∧ y = .int i ∧ z.length ≤ sizeLine ∧ atI z.cps.toList i = some c ∧ Q (.str ⟨#[c]⟩) H
theorem ix_list : IxR X (rIxL X.K) := by
  intro value slice pins s σ H x y v u Q I rx ry h hs
  obtain ⟨p, xs, i, z, rfl, rfl, hq, he, q⟩ := h
  cases rx
  obtain ⟨t, rfl⟩ := ry
  obtain ⟨its, r, pl, hz⟩ := I.list hq
  obtain ⟨j, h1, h2, h3, h4, h5⟩ := atI_get he
  obtain ⟨w, ew, rw'⟩ := r.get h2
  have hl := r.length
  have hn := line63
  have fin : EP X pins σ Q w s := ⟨z, H, I, rw', q⟩
  by_cases h0 : 0 ≤ i
  · have hj : i.toNat = j := by
      rw [seqIndex_of h0 h5] at h1
      exact Option.some.inj h1
    exact item_listR pl.isList h0 (by omega) (by rw [hj]; simpa using ew) fin hs
  · have hj : (i + (its.toArray.size : Int)).toNat = j := by
      rw [seqIndex_neg (by omega) h4] at h1
      rw [List.size_toArray, ← hl]
      exact Option.some.inj h1
    exact subscriptTail_builtinR (x := w) pl.isList.typeIs slot_list_getitem.lookup
      (wpAny_getItem_list_neg (Q := fun r s' => r = w ∧ EP X pins σ Q r s') pl.isList (by omega) (by rw [List.size_toArray] <;> omega) (by omega) (by rw [hj]; simpa using ew) ⟨rfl, fin⟩) hs
theorem ix_tup : IxR X (rIxT X.K) := by
  intro value slice pins s σ H x y v u Q I rx ry h hs
  obtain ⟨p, xs, i, z, rfl, rfl, hq, he, q⟩ := h
  cases rx
  obtain ⟨t, rfl⟩ := ry
  obtain ⟨its, r, pl, hz⟩ := I.tuple hq
  obtain ⟨j, h1, h2, h3, h4, h5⟩ := atI_get he
  obtain ⟨w, ew, rw'⟩ := r.get h2
  have hl := r.length
  have hn := line63
  have fin : EP X pins σ Q w s := ⟨z, H, I, rw', q⟩
  exact subscriptTail_builtinR (x := w) pl.typeIs slot_tuple_getitem.lookup
    (getItem_tuple (j := j) (Q := fun r s' => r = w ∧ EP X pins σ Q r s') pl (by omega) (by omega) (by rw [List.size_toArray, ← hl]; exact h1) (by simpa using ew) ⟨rfl, fin⟩) hs
theorem ix_str : IxR X rIxS := by
  intro value slice pins s σ H x y v u Q I rx ry h hs
  obtain ⟨z, i, c, rfl, rfl, hz, he, q⟩ := h
  obtain ⟨t, rfl⟩ := rx
  obtain ⟨t', rfl⟩ := ry
  obtain ⟨j, h1, h2, h3, h4, h5⟩ := atI_get he
  have hl : z.cps.toList.length = z.length := by simp [Str.length]
  rw [hl] at h1 h4 h5
  have hn := line63
  exact tail_any (typeIs_str s z t) slot_str_getitem.lookup (getItem_str (c := c) (by
    have e1 : decide (i < -(2 ^ 63 : Int)) = false := decide_eq_false (by omega)
    have e2 : decide (i ≥ 2 ^ 63) = false := decide_eq_false (by omega)
    rw [e1, e2, Bool.or_false]) (by rw [h1]; simpa using h2) ⟨.str ⟨#[c]⟩, H, I.tok _, ⟨_, rfl⟩, q⟩) hs
theorem mapSeq_set (its : List Value) (n j : Nat) (u : Value) : Obj.mapSeq (·.setIfInBounds j u) { cls := .type "list", data := .seq its.toArray n } = { cls := .type "list", data := .seq (its.set j u).toArray n } := by
  simp [Obj.mapSeq]
theorem Inv.lst {pins : List (Addr × Obj)} {σ : St} {H : Hp} {s : Shared} {p : Addr} {xs : List V} (I : Inv X pins σ H s) (h : H p = some (.lst xs)) :
    ∃ (its : List Value) (n : Nat), Vals xs its ∧ s.heap.get? p = some { cls := .type "list", data := .seq its.toArray n } ∧ xs.length ≤ sizeLine := by
  obtain ⟨z, its, n, r, e⟩ := I.hok p _ h
  exact ⟨its, n, r, e, z⟩
theorem Inv.lstUpd {pins : List (Addr × Obj)} {σ : St} {H : Hp} {s : Shared} {p : Addr} {xs ys : List V} {its its' : List Value} {n n' : Nat} {f : Obj → Obj} (I : Inv X pins σ H s) (h : H p = some (.lst xs))
    (ho : s.heap.get? p = some { cls := .type "list", data := .seq its.toArray n }) (hf : f { cls := .type "list", data := .seq its.toArray n } = { cls := .type "list", data := .seq its'.toArray n' }) (r : Vals ys its') (hz : ys.length ≤ sizeLine) (t : Nat) :
    Inv X pins σ (upd H p (.lst ys)) { s with heap := s.heap.update p f, toks := t } := by
  have e : (s.heap.update p f).get? p = some { cls := .type "list", data := .seq its'.toArray n' } := by
    rw [Heap.get?_update_self f ho (by rw [hf] <;> rfl), hf]
  refine I.write (x := p) (e := p) (by rw [h]; trivial) (.inl rfl) (fun b u hb q => (Heap.get?_update_other _ _ (Ne.symm hb)).trans q) ⟨_, e⟩ ?_
  exact ⟨hz, its', n', r, e⟩
noncomputable def rSetL : V → V → V → Hp → (Hp → Prop) → Prop := fun o i v H Q => ∃ p xs k j, o = .ref p ∧ i = .int k ∧ H p = some (.lst xs) ∧ ixN xs.length k = some j ∧ Q (upd H p (.lst (xs.set j v)))
theorem set_list : PSet X rSetL := by
  intro pins s σ H o i v ov iv u Q I ro ri rv h
  obtain ⟨p, xs, k, j, rfl, rfl, hp, hj, q⟩ := h
  cases ro
  obtain ⟨t, rfl⟩ := ri
  obtain ⟨its, n, r, ho, hz⟩ := I.lst hp
  obtain ⟨h1, h2, h3, h4⟩ := ixN_seq hj
  have hl := r.length
  have hn := line63
  have I' : Inv X pins σ (upd H p (.lst (xs.set j v))) { s with heap := s.heap.update p (Obj.mapSeq (·.setIfInBounds j u)) } :=
    I.lstUpd hp ho (mapSeq_set its n j u) (r.set rv j) (by rw [List.length_set]; exact hz) s.toks
  by_cases h0 : 0 ≤ k
  · have hk : k.toNat = j := by
      rw [seqIndex_of h0 h4] at h1
      exact Option.some.inj h1
    exact PySem.W.ki_setAt ho h0 (by omega) (by rw [List.size_toArray, ← hl]; exact h4) (by rw [hk]; exact ⟨_, I', q⟩)
  · have hk : (k + (its.toArray.size : Int)).toNat = j := by
      rw [seqIndex_neg (by omega) h3] at h1
      rw [List.size_toArray, ← hl]
      exact Option.some.inj h1
    exact PySem.W.ki_setBack ho (by omega) (by rw [List.size_toArray, ← hl]; exact h3) (by omega) (by rw [hk]; exact ⟨_, I', q⟩)
theorem slice_bounds (lo hi : Option Int) (n : Nat) : (sliceBounds lo hi none n).1 = ((HT.sIx n 0 lo : Nat) : Int) ∧ (sliceBounds lo hi none n).2.1 = ((HT.sIx n n hi : Nat) : Int) ∧ (sliceBounds lo hi none n).2.2 = 1 := by
  refine ⟨?_, ?_, rfl⟩
  · cases lo with
    | none => simp [sliceBounds, HT.sIx]
    | some i =>
      simp only [sliceBounds, HT.sIx, Option.getD_none, show (1 : Int) > 0 by decide, if_true]
      by_cases h : i < 0
      · simp only [h, if_true] <;> omega
      · simp only [h, if_false] <;> omega
  · cases hi with
    | none => simp [sliceBounds, HT.sIx]
    | some i =>
      simp only [sliceBounds, HT.sIx, Option.getD_none, show (1 : Int) > 0 by decide, if_true]
      by_cases h : i < 0
      · simp only [h, if_true] <;> omega
      · simp only [h, if_false] <;> omega
theorem slicePick_cut (its : List Value) (lo hi : Option Int) : slicePick its.toArray lo hi none = ((its.drop (HT.sIx its.length 0 lo)).take (HT.sIx its.length its.length hi - HT.sIx its.length 0 lo)).toArray := by
  obtain ⟨h1, h2, h3⟩ := slice_bounds lo hi its.toArray.size
  unfold slicePick
  rw [h1, h2, h3]
  simp only [sliceRange_one, pick_run, List.size_toArray] <;> rfl
noncomputable def rSlL (K : PySem.W.Frag) : V → Option Int → Option Int → Hp → VK → Prop := fun x lo hi H Q => ∃ a xs, x = .ref a ∧ SqL K H a xs ∧ ∀ p, H p = none → Q (.ref p) (upd H p (.lst (cutV xs lo hi)))
theorem sl_list : SlR X (rSlL X.K) := by
  intro pins s σ H x v vl vu lo hi sl Q I rx hs pl pu h
  obtain ⟨a, xs, rfl, hx, q⟩ := h
  cases rx
  obtain ⟨its, r, ht, hz⟩ := I.list hx
  have hlen := r.length
  refine ⟨"list", _, slot_list_getitem.lookup, ht.isList.typeIs, ?_⟩
  refine wpAny_getItem_list_slice ht.isList hs pl pu .none (by simp) ?_ (by rw [List.size_toArray] <;> omega)
  rw [slicePick_cut, ← hlen]
  refine ⟨.ref s.heap.objs.size, _, I.laid (t' := s.toks) (o := .lst (cutV xs lo hi)) (fun b ob q => Heap.get?_push_of_some _ q) (Nat.le_refl _) ?_, rfl, q _ (I.hok.fresh (Nat.le_refl _))⟩
  exact ⟨Nat.le_trans (cutV_length xs lo hi) hz, _, 0, (r.drop (HT.sIx xs.length 0 lo)).take (HT.sIx xs.length xs.length hi - HT.sIx xs.length 0 lo), Heap.get?_push_size _ rfl⟩
noncomputable def flatV : V → Bool
  | .non => true
  | .bl _ => true
  | .int _ => true
  | .str _ => true
  | _ => false
noncomputable def eqV : V → V → Bool
  | .non, .non => true
  | .bl a, .bl b => a == b
  | .bl a, .int b => (if a then 1 else 0) == b
  | .int a, .bl b => a == (if b then 1 else 0)
  | .int a, .int b => a == b
  | .str a, .str b => a == b
  | _, _ => false
theorem eqAt_V {A : Around} {s : Shared} {y x : V} {u v : Value} (ry : RelV y u) (rx : RelV x v) (fy : flatV y = true) (fx : flatV x = true) : SeqAt.EqAt A s u v (eqV y x) := by
  cases y with
  | non =>
    cases ry
    cases x with
    | non => cases rx; exact SeqAt.EqAt.same _
    | bl b => cases rx; exact SeqAt.EqAt.none_bool b
    | int b => obtain ⟨t, rfl⟩ := rx; exact SeqAt.EqAt.none_int b t
    | str b => obtain ⟨t, rfl⟩ := rx; exact SeqAt.EqAt.none_str b t
    | _ => exact absurd (show false = true from fx) Bool.false_ne_true
  | bl a =>
    cases ry
    cases x with
    | non => cases rx; exact SeqAt.EqAt.bool_none a
    | bl b => cases rx; exact SeqAt.EqAt.bool_bool a b
    | int b => obtain ⟨t, rfl⟩ := rx; exact SeqAt.EqAt.bool_int a b t
    | str b => obtain ⟨t, rfl⟩ := rx; exact SeqAt.EqAt.bool_str a b t
    | _ => exact absurd (show false = true from fx) Bool.false_ne_true
  | int a =>
    obtain ⟨t', rfl⟩ := ry
    cases x with
    | non => cases rx; exact SeqAt.EqAt.int_none a t'
    | bl b => cases rx; exact SeqAt.EqAt.int_bool a t' b
    | int b => obtain ⟨t, rfl⟩ := rx; exact SeqAt.EqAt.int_int a t' b t
    | str b => obtain ⟨t, rfl⟩ := rx; exact SeqAt.EqAt.int_str a t' b t
    | _ => exact absurd (show false = true from fx) Bool.false_ne_true
  | str a =>
    obtain ⟨t', rfl⟩ := ry
    cases x with
    | non => cases rx; exact SeqAt.EqAt.str_none a t'
    | bl b => cases rx; exact SeqAt.EqAt.str_bool a t' b
    | int b => obtain ⟨t, rfl⟩ := rx; exact SeqAt.EqAt.str_int a t' b t
    | str b => obtain ⟨t, rfl⟩ := rx; exact SeqAt.EqAt.str_str a t' b t
    | _ => exact absurd (show false = true from fx) Bool.false_ne_true
  | _ => exact absurd (show false = true from fy) Bool.false_ne_true
noncomputable def eqU (x : V) (u : Value) : Bool := match u with
  | .none => eqV .non x
  | .bool b => eqV (.bl b) x
  | .int i _ => eqV (.int i) x
  | .str z _ => eqV (.str z) x
  | _ => false
theorem eqU_of {x y : V} {u : Value} (r : RelV y u) (f : flatV y = true) : eqU x u = eqV y x := by
  cases y with
  | non => cases r; rfl
  | bl b => cases r; rfl
  | int i => obtain ⟨t, rfl⟩ := r; rfl
  | str z => obtain ⟨t, rfl⟩ := r; rfl
  | _ => exact absurd (show false = true from f) Bool.false_ne_true
theorem any_eqU {x : V} : ∀ {xs : List V} {us : List Value}, Vals xs us → xs.all flatV = true → us.any (eqU x) = xs.any fun y => eqV y x
  | _, _, .nil, _ => rfl
  | y :: xs, u :: us, .cons r t, f => by
    rw [List.all_cons, Bool.and_eq_true] at f
    rw [List.any_cons, List.any_cons, eqU_of r f.1, any_eqU t f.2]
theorem mem_eqAt {A : Around} {s : Shared} {x : V} {v : Value} (rx : RelV x v) (fx : flatV x = true) : ∀ {xs : List V} {us : List Value}, Vals xs us → xs.all flatV = true → ∀ u ∈ us, SeqAt.EqAt A s u v (eqU x u)
  | _, _, .nil, _ => fun u hu => by cases hu
  | y :: xs, u :: us, .cons r t, f => fun u' hu => by
    rw [List.all_cons, Bool.and_eq_true] at f
    rcases List.mem_cons.mp hu with rfl | hu
    · rw [eqU_of r f.1]; exact eqAt_V r rx f.1 fx
    · exact mem_eqAt rx fx t f.2 u' hu
noncomputable def inV (x : V) (xs : List V) : Bool := xs.any fun y => eqV y x
noncomputable def rIn (K : PySem.W.Frag) (neg : Bool) : R2 := fun x y H Q => ∃ p xs, y = .ref p ∧ (SqL K H p xs ∨ SqT K H p xs) ∧ flatV x = true ∧ xs.all flatV = true ∧ Q (.bl (if neg then !inV x xs else inV x xs)) H
theorem op_in_seq : OpR X (compareOp .In) (rIn X.K false) := by
  intro pins s σ H x y v u Q I rx ry h
  obtain ⟨p, xs, rfl, hq, fx, fs, q⟩ := h
  cases ry
  rcases hq with hq | hq
  · obtain ⟨its, r, pl, hz⟩ := I.list hq
    refine SeqAt.in_listAt (eqU x) pl.isList (fun w hw => mem_eqAt rx fx r fs w (by simpa using hw)) ⟨.bl _, H, I, rfl, ?_⟩
    rw [show its.toArray.any (eqU x) = its.any (eqU x) by simp, any_eqU r fs]
    exact q
  · obtain ⟨its, r, pl, hz⟩ := I.tuple hq
    refine SeqAt.in_tupleAt (eqU x) pl (fun w hw => mem_eqAt rx fx r fs w (by simpa using hw)) ⟨.bl _, H, I, rfl, ?_⟩
    rw [show its.toArray.any (eqU x) = its.any (eqU x) by simp, any_eqU r fs]
    exact q
theorem op_notIn_seq : OpR X (compareOp .NotIn) (rIn X.K true) := by
  intro pins s σ H x y v u Q I rx ry h
  obtain ⟨p, xs, rfl, hq, fx, fs, q⟩ := h
  cases ry
  rcases hq with hq | hq
  · obtain ⟨its, r, pl, hz⟩ := I.list hq
    refine SeqAt.notIn_listAt (eqU x) pl.isList (fun w hw => mem_eqAt rx fx r fs w (by simpa using hw)) ⟨.bl _, H, I, rfl, ?_⟩
    rw [show its.toArray.any (eqU x) = its.any (eqU x) by simp, any_eqU r fs]
    exact q
  · obtain ⟨its, r, pl, hz⟩ := I.tuple hq
    refine SeqAt.notIn_tupleAt (eqU x) pl (fun w hw => mem_eqAt rx fx r fs w (by simpa using hw)) ⟨.bl _, H, I, rfl, ?_⟩
    rw [show its.toArray.any (eqU x) = its.any (eqU x) by simp, any_eqU r fs]
    exact q
theorem call_len_seq : CallR X (.builtin "len") (fun xs H Q => ∃ p ys, xs = [.ref p] ∧ (SqL X.K H p ys ∨ SqT X.K H p ys) ∧ Q (.int ys.length) H) := by
  intro pins s σ H xs us Q I r h
  obtain ⟨p, ys, rfl, hq, q⟩ := h
  obtain ⟨u, rfl, rx⟩ := vals1 r
  cases rx
  have hn := line63
  rcases hq with hq | hq
  · obtain ⟨its, r', pl, hz⟩ := I.list hq
    have hlen := r'.length
    exact Calls.call_len_list pl.isList (by simp only [List.size_toArray] <;> omega) ⟨.int ys.length, H, I.tok _, ⟨s.toks + 1, by rw [List.size_toArray, hlen]⟩, q⟩
  · obtain ⟨its, r', pl, hz⟩ := I.tuple hq
    have hlen := r'.length
    exact len_tuple pl (by simp only [List.size_toArray] <;> omega) ⟨.int ys.length, H, I.tok _, ⟨s.toks + 1, by rw [List.size_toArray, hlen]⟩, q⟩
theorem call_len_str : CallR X (.builtin "len") (fun xs H Q => ∃ z, xs = [.str z] ∧ z.length ≤ sizeLine ∧ Q (.int z.length) H) := by
  intro pins s σ H xs us Q I r h
  obtain ⟨z, rfl, hz, q⟩ := h
  obtain ⟨u, rfl, t, rfl⟩ := vals1 r
  have hn := line63
  exact len_str (by omega) ⟨.int z.length, H, I.tok _, ⟨_, rfl⟩, q⟩
theorem call_tuple_of : CallR X (.type "tuple") (fun xs H Q => ∃ p ys, xs = [.ref p] ∧ ((SqL X.K H p ys ∧ ∀ l, H l = none → Q (.ref l) (upd H l (.tup ys))) ∨ (SqT X.K H p ys ∧ Q (.ref p) H))) := by
  intro pins s σ H xs us Q I r h
  obtain ⟨p, ys, rfl, h⟩ := h
  obtain ⟨u, rfl, rx⟩ := vals1 r
  cases rx
  rcases h with ⟨hq, q⟩ | ⟨hq, q⟩
  · obtain ⟨its, r', pl, hz⟩ := I.list hq
    have hlen := r'.length
    refine call_tuple_list pl.isList (fun h' kp => ?_) (by simp only [List.size_toArray] <;> omega)
    have I1 : Inv X pins σ H { s with heap := h' } := I.kept (t' := s.toks) kp
    have I2 : Inv X pins σ (upd H h'.objs.size (.tup ys)) { s with heap := h'.push { cls := .type "tuple", data := .seq its.toArray } } :=
      I1.laid (t' := s.toks) (fun b o e => Heap.get?_push_of_some _ e) (Nat.le_refl _) (show ObjOk X.prog X.w _ _ _ (.tup ys) from ⟨hz, its, r', IsTup.new _ _⟩)
    exact ⟨.ref h'.objs.size, _, I2, rfl, q _ (I1.hok.fresh (Nat.le_refl _))⟩
  · obtain ⟨its, r', pl, hz⟩ := I.tuple hq
    exact call_tuple_same pl ⟨.ref p, H, I, rfl, q⟩
noncomputable def tyV (K : PySem.W.Frag) (T : String) (x : V) (H : Hp) : Prop := match x with
  | .str _ => T = "str"
  | .int _ => T = "int"
  | .ref p => (T = "list" ∧ ∃ xs, SqL K H p xs) ∨ (T = "tuple" ∧ ∃ o, K.lookup p = some o ∧ o.cls = .type "tuple" ∧ o.dict = none) ∨
      (T = "dict" ∧ ((∃ kvs, H p = some (.dK kvs)) ∨ ∃ kvs, H p = some (.dT kvs))) ∨ (T = "set" ∧ ∃ S n, H p = some (.set S n))
  | _ => False
theorem tyV_is {pins : List (Addr × Obj)} {σ : St} {H : Hp} {s : Shared} {T : String} {x : V} {v : Value} (I : Inv X pins σ H s) (r : RelV x v) (ty : tyV X.K T x H) :
    s.TypeIs v T ∧ ∀ a, v = .ref a → ∃ ob, s.heap.get? a = some ob ∧ ob.dict = none := by
  cases x with
  | str z =>
    obtain ⟨t, rfl⟩ := r
    cases (show T = "str" from ty)
    exact ⟨typeIs_str s z t, fun _ e => nomatch e⟩
  | int i =>
    obtain ⟨t, rfl⟩ := r
    cases (show T = "int" from ty)
    exact ⟨typeIs_int s i t, fun _ e => nomatch e⟩
  | ref p =>
    cases r
    rcases ty with ⟨rfl, xs, hq⟩ | ⟨rfl, o, hk, hc, hd⟩ | ⟨rfl, hk⟩ | ⟨rfl, S, n, hk⟩
    · obtain ⟨its, _, pl, _⟩ := I.list hq
      refine ⟨pl.isList.typeIs, fun a e => ?_⟩
      cases e
      obtain ⟨o, n, e, c, hd, _⟩ := pl
      exact ⟨o, e, hd⟩
    · refine ⟨⟨o, I.kIn p o hk, hc⟩, fun a e => ?_⟩
      cases e
      exact ⟨o, I.kIn _ o hk, hd⟩
    · have z : ∃ o, s.heap.get? p = some o ∧ o.ExactDict := by
        rcases hk with ⟨kvs, hk⟩ | ⟨kvs, hk⟩
        · obtain ⟨_, _, _, _, o, _, _, e, ex, _⟩ := I.hok p _ hk
          exact ⟨o, e, ex⟩
        · obtain ⟨_, _, _, _, o, _, _, e, ex, _⟩ := I.hok p _ hk
          exact ⟨o, e, ex⟩
      obtain ⟨o, e, ex⟩ := z
      refine ⟨⟨o, e, ex.1⟩, fun a e2 => ?_⟩
      cases e2
      exact ⟨o, e, ex.2.1⟩
    · obtain ⟨o, _, _, _, e, ex, _⟩ := I.hok p _ hk
      refine ⟨⟨o, e, ex.1⟩, fun a e2 => ?_⟩
      cases e2
      exact ⟨o, e, ex.2.1⟩
  | _ => exact False.elim ty
noncomputable def tBM (K : PySem.W.Frag) (T : String) (r : V → List V → Hp → VK → Prop) (to : TE) (t : TA) : TE := fun σ H Q => to σ H fun x H1 => tyV K T x H1 ∧ t σ H1 fun xs H2 => r x xs H2 Q
variable {o e : Expr} {es : List Expr} {to : TE} {t : TA} {name : Str} {apos cpos : Pos} {T id : String} {r : V → List V → Hp → VK → Prop}
theorem pe_bm (pa : PlainAttrs T) (slot : Slot T name id) (hty : typeOf (.builtin id) = pure (.type "method_descriptor")) (hm : MtR X id r) (ho : PE X o to) (ha : PA X (e :: es) t)
    (hbase : attributeBase o name X.env (eval o X.env) = eval o X.env := by rfl)
    (hfew : ((backTo cpos (starEach (e :: es) X.env)).all (fun x => !x.1) && (backToKw cpos (keywordEach [] X.env)).all (fun x => x.1.isSome)
      && decide ((e :: es).length + ([] : List Keyword).length + (if ([] : List Keyword).isEmpty then 0 else 1) < 30)) = true := by rfl)
    (hline : (apos.endLine == cpos.line) = true := by rfl) (hs : starEach (e :: es) X.env = (false, eval e X.env) :: starEach es X.env := by rfl) (hplain : (backTo cpos (starEach es X.env)).any (·.1) = false := by rfl) :
    PE X (.Call (.Attribute o name apos) (e :: es) [] cpos) (tBM X.K T r to t) := by
  intro pins s σ H Q I h
  refine wpAny_Call_method_late hbase hfew hline rfl (thn (ho pins s σ H _ I h) fun v s1 ⟨x, H1, I1, r1, ty, q1⟩ => ?_)
  obtain ⟨h1, h2⟩ := tyV_is I1 r1 ty
  refine ⟨T, id, pa, slot, hty, h1, h2, ?_⟩
  have hA := ha cpos pins s1 σ H1 _ I1 q1
  rw [hs] at hA ⊢
  refine Calls.callWith_builtin (by show (false || (backTo cpos (starEach es X.env)).any (·.1)) = false; rw [hplain] <;> rfl) (Calls.evalArgs_plain ?_)
  exact thn hA fun us s2 ⟨vs, H2, I2, r2, q2⟩ => hm pins s2 σ H2 x vs v us Q I2 r1 r2 q2
end
end L2
namespace L2
open PySem PySem.Spec PyProof.Rows
noncomputable def MtM (X : Cx) (id : String) (r : V → List V → Hp → VK → Prop) : Prop :=
  ∀ (pins : List (Addr × Obj)) (s : Shared) (σ : St) (H : Hp) (x : V) (xs : List V) (v : Value) (us : List Value) (Q : VK), Inv X pins σ H s → RelV x v → Vals xs us → r x xs H Q →
    wpAny (model X.prog X.w) X.A (call (.builtin id) (v :: us)) (EP X pins σ Q) X.xe s
theorem Vals.one : ∀ {x : V} {us : List Value}, Vals [x] us → ∃ u, us = [u] ∧ RelV x u
  | _, _, .cons r .nil => ⟨_, rfl, r⟩
section
variable {X : Cx} {pins : List (Addr × Obj)} {σ : St} {H : Hp} {s : Shared} {l b : Addr} {xs ys zs : List V}
theorem Inv.lset {its its' : List Value} {n : Nat} {f : Array Value → Array Value} {t' : Nat} (I : Inv X pins σ H s) (hH : H l = some (.lst xs))
    (e : s.heap.get? l = some { cls := .type "list", data := .seq its.toArray n }) (hf : f its.toArray = its'.toArray) (hv : Vals ys its') (hz : ys.length ≤ sizeLine) :
    Inv X pins σ (upd H l (.lst ys)) { s with heap := s.heap.update l (Obj.mapSeq f), toks := t' } := by
  have q := PySem.IsL.update e f
  rw [hf] at q
  refine I.write (x := l) (e := l) (by rw [hH]; exact trivial) (.inl rfl) (fun b' u hb hu => (Heap.get?_update_other s.heap (Obj.mapSeq f) (Ne.symm hb)).trans hu) ⟨_, q⟩ ?_
  exact ⟨hz, its', _, hv, q⟩
theorem Inv.lnew {its : List Value} {t' : Nat} (I : Inv X pins σ H s) (hv : Vals ys its) (hz : ys.length ≤ sizeLine) :
    Inv X pins σ (upd H s.heap.objs.size (.lst ys)) { s with heap := s.heap.push { cls := .type "list", data := .seq its.toArray }, toks := t' } :=
  I.laid (fun _ _ q => Heap.get?_push_of_some _ q) (Nat.le_refl _) ⟨hz, its, 0, hv, Heap.get?_push_size _ rfl⟩
theorem Inv.fresh (I : Inv X pins σ H s) : H s.heap.objs.size = none := I.hok.fresh (Nat.le_refl _)
theorem Inv.lstM (I : Inv X pins σ H s) (hH : H l = some (.lst xs)) : xs.length ≤ sizeLine ∧ ∃ (its : List Value) (n : Nat), Vals xs its ∧ xs.length = its.length ∧ s.heap.get? l = some { cls := .type "list", data := .seq its.toArray n } := by
  obtain ⟨z, its, n, r, e⟩ := I.hok l _ hH
  exact ⟨z, its, n, r, r.length, e⟩
theorem notLongL {n : Nat} (h : n ≤ sizeLine) : Builtin.List.listTooLong n = false := by
  unfold Builtin.List.listTooLong
  exact decide_eq_false (by omega)
end
section
variable {X : Cx}
noncomputable def rAppend : V → List V → Hp → VK → Prop := fun x vs H Q => ∃ l xs y, x = .ref l ∧ vs = [y] ∧ H l = some (.lst xs) ∧ xs.length < sizeLine ∧ Q .non (upd H l (.lst (xs ++ [y])))
theorem mt_append : MtM X "list.append" rAppend := by
  intro pins s σ H x vs v us Q I rx rv h
  obtain ⟨l, xs, y, rfl, rfl, hH, hz, q⟩ := h
  cases rx
  obtain ⟨u, rfl, ru⟩ := rv.one
  obtain ⟨z, its, n, r, hl, e⟩ := I.lstM hH
  refine call_meets F.slot_list_append ⟨_, e, rfl⟩ F.entry_list_append (F.args_list_append_2 _ _) (PySem.list_append l its.toArray n u (by rw [List.size_toArray]; omega)) ⟨e, ?_⟩
  refine ⟨.non, _, I.lset (its' := its ++ [u]) hH e (by simp) (r.append (.cons ru .nil)) ?_, rfl, q⟩
  rw [List.length_append, List.length_singleton]
  omega
noncomputable def rExtend : V → List V → Hp → VK → Prop := fun x vs H Q => ∃ l b xs zs, x = .ref l ∧ vs = [.ref b] ∧ H l = some (.lst xs) ∧ H b = some (.lst zs) ∧ xs.length + zs.length ≤ sizeLine ∧ Q .non (upd H l (.lst (xs ++ zs)))
theorem mt_extend : MtM X "list.extend" rExtend := by
  intro pins s σ H x vs v us Q I rx rv h
  obtain ⟨l, b, xs, zs, rfl, rfl, hH, hB, hz, q⟩ := h
  cases rx
  obtain ⟨u, rfl, ru⟩ := rv.one
  cases ru
  obtain ⟨z, its, n, r, hl, e⟩ := I.lstM hH
  obtain ⟨z2, its2, n2, r2, hl2, e2⟩ := I.lstM hB
  have hsz : its.toArray.size + its2.toArray.size ≤ sizeLine := by rw [List.size_toArray, List.size_toArray]; omega
  have hlong : ¬ (!its.toArray.isEmpty && Builtin.List.listTooLong (its.toArray.size + its2.toArray.size)) = true := by
    rw [notLongL hsz, Bool.and_false]
    exact Bool.false_ne_true
  refine call_meets F.slot_list_extend ⟨_, e, rfl⟩ F.entry_list_extend (F.args_list_extend_2 _ _)
    (AutoSeq1.list_extend_list_list_0 l its.toArray n b its2.toArray n2 hlong (by rw [List.size_toArray]; omega) (by omega)) ⟨e, e2, ?_⟩
  refine ⟨.non, _, I.lset (its' := its ++ its2) hH e (by simp) (r.append r2) ?_, rfl, q⟩
  rw [List.length_append]
  omega
noncomputable def rCat : R2 := fun x y H Q => ∃ l b xs zs, x = .ref l ∧ y = .ref b ∧ H l = some (.lst xs) ∧ H b = some (.lst zs) ∧ xs.length + zs.length ≤ sizeLine ∧ ∀ p, H p = none → Q (.ref p) (upd H p (.lst (xs ++ zs)))
theorem op_cat : OpR X (binaryOp .Add) rCat := by
  intro pins s σ H x y v u Q I rx ry h
  obtain ⟨l, b, xs, zs, rfl, rfl, hH, hB, hz, q⟩ := h
  cases rx
  cases ry
  obtain ⟨z, its, n, r, hl, e⟩ := I.lstM hH
  obtain ⟨z2, its2, n2, r2, hl2, e2⟩ := I.lstM hB
  refine PySem.P.add_list e e2 ?_ (by rw [List.size_toArray, List.size_toArray]; omega)
  have ea : its.toArray ++ its2.toArray = (its ++ its2).toArray := by simp
  rw [ea]
  exact ⟨.ref _, _, I.lnew (t' := s.toks) (r.append r2) (by rw [List.length_append]; omega), rfl, q _ I.fresh⟩
end
section
variable {prog : Program} {w : World} {A : Around} {E : Value → Shared → Prop} {s : Shared}
end
section
variable {X : Cx}
end
end L2
namespace L2
open PySem PySem.Spec PyProof.Rows
section
variable {κ : Type} [DecidableEq κ]
noncomputable def valV (kvs : List (κ × V)) (k : κ) : Option V := (kvs.find? fun kv => decide (kv.1 = k)).map (·.2)
noncomputable def putK (kvs : List (κ × V)) (k : κ) (v : V) : List (κ × V) :=
  if (kvs.any fun kv => decide (kv.1 = k)) = true then kvs.map (fun kv => if kv.1 = k then (kv.1, v) else kv) else kvs ++ [(k, v)]
theorem valV_pos {p : κ × V} {r : List (κ × V)} {k : κ} (e : p.1 = k) : valV (p :: r) k = some p.2 := by simp [valV, List.find?_cons, e]
theorem valV_neg {p : κ × V} {r : List (κ × V)} {k : κ} (e : ¬ p.1 = k) : valV (p :: r) k = valV r k := by simp [valV, List.find?_cons, e]
theorem valV_any (k : κ) : ∀ kvs : List (κ × V), (kvs.any fun kv => decide (kv.1 = k)) = (valV kvs k).isSome
  | [] => rfl
  | p :: r => by
    rw [List.any_cons]
    by_cases e : p.1 = k
    · simp only [valV_pos e, decide_eq_true e, Bool.true_or, Option.isSome_some]
    · rw [valV_neg e, decide_eq_false e, Bool.false_or]; exact valV_any k r
theorem valV_map (k j : κ) (y : V) : ∀ kvs : List (κ × V), valV (kvs.map fun kv => if kv.1 = k then (kv.1, y) else kv) j = (valV kvs j).map fun x => if j = k then y else x
  | [] => rfl
  | p :: r => by
    have ih := valV_map k j y r
    rw [List.map_cons]
    by_cases h : p.1 = k
    · rw [if_pos h]
      by_cases e : p.1 = j
      · rw [valV_pos (p := (p.1, y)) e, valV_pos e, Option.map_some, if_pos (e.symm.trans h)]
      · rw [valV_neg (p := (p.1, y)) e, valV_neg e, ih]
    · rw [if_neg h]
      by_cases e : p.1 = j
      · rw [valV_pos (p := p) e, valV_pos e, Option.map_some, if_neg (fun z => h (e.trans z))]
      · rw [valV_neg (p := p) e, valV_neg e, ih]
theorem valV_snoc (k j : κ) (y : V) : ∀ kvs : List (κ × V), valV kvs k = none → valV (kvs ++ [(k, y)]) j = if j = k then some y else valV kvs j
  | [], _ => by
    by_cases e : k = j
    · rw [if_pos e.symm]; exact valV_pos (p := (k, y)) e
    · rw [if_neg (fun z => e z.symm)]; exact valV_neg (p := (k, y)) e
  | p :: r, hn => by
    rw [List.cons_append]
    have hk : ¬ p.1 = k := fun z => by rw [valV_pos z] at hn; cases hn
    rw [valV_neg hk] at hn
    have ih := valV_snoc k j y r hn
    by_cases e : p.1 = j
    · rw [valV_pos e, valV_pos e, if_neg (fun z => hk (e.trans z))]
    · rw [valV_neg e, valV_neg e, ih]
theorem valV_put (kvs : List (κ × V)) (k j : κ) (y : V) : valV (putK kvs k y) j = if j = k then some y else valV kvs j := by
  unfold putK
  by_cases a : (kvs.any fun kv => decide (kv.1 = k)) = true
  · rw [if_pos a, valV_map]
    rw [valV_any] at a
    by_cases e : j = k
    · obtain ⟨x, hx⟩ := Option.isSome_iff_exists.mp a
      rw [if_pos e, e, hx, Option.map_some, if_pos rfl]
    · rw [if_neg e]
      cases valV kvs j with
      | none => rfl
      | some x => rw [Option.map_some, if_neg e]
  · rw [if_neg a]
    refine valV_snoc k j y kvs ?_
    rw [valV_any] at a
    cases q : valV kvs k with
    | none => rfl
    | some x => rw [q] at a; exact (a rfl).elim
theorem length_putK (kvs : List (κ × V)) (k : κ) (v : V) : (putK kvs k v).length ≤ kvs.length + 1 := by
  unfold putK
  split
  · rw [List.length_map]; omega
  · rw [List.length_append, List.length_cons, List.length_nil]; omega
theorem RelO.isSome_eq {o : Option V} {u : Option Value} (r : RelO o u) : o.isSome = u.isSome := by
  cases o with
  | none => cases u with
    | none => rfl
    | some _ => exact (show False from r).elim
  | some _ => cases u with
    | none => exact (show False from r).elim
    | some _ => rfl
theorem KV.val {kvs : List (κ × V)} {vs : List (κ × Value)} (r : KV kvs vs) (k : κ) : RelO (valV kvs k) (valueAt vs k) := by
  unfold KV at r
  induction r with
  | nil => exact True.intro
  | @cons p q ps qs h t ih =>
    obtain ⟨h1, h2⟩ := h
    by_cases e : p.1 = k
    · have e' : q.1 = k := h1.symm.trans e
      have b : valueAt (q :: qs) k = some q.2 := by simp [valueAt, List.find?_cons, e']
      rw [valV_pos e, b]; exact h2
    · have e' : ¬ q.1 = k := fun z => e (h1.trans z)
      have b : valueAt (q :: qs) k = valueAt qs k := by simp [valueAt, List.find?_cons, e']
      rw [valV_neg e, b]; exact ih
theorem KV.any {kvs : List (κ × V)} {vs : List (κ × Value)} (r : KV kvs vs) (k : κ) : (kvs.any fun kv => decide (kv.1 = k)) = vs.any fun kv => decide (kv.1 = k) := by
  unfold KV at r
  induction r with
  | nil => rfl
  | cons h t ih => rw [List.any_cons, List.any_cons, ih, h.1]
theorem KV.repl {kvs : List (κ × V)} {vs : List (κ × Value)} (r : KV kvs vs) (k : κ) {y : V} {u : Value} (ry : RelV y u) :
    KV (kvs.map fun kv => if kv.1 = k then (kv.1, y) else kv) (vs.map fun kv => if kv.1 = k then (kv.1, u) else kv) := by
  unfold KV at r ⊢
  induction r with
  | nil => exact .nil
  | @cons p q ps qs h t ih =>
    rw [List.map_cons, List.map_cons]
    refine .cons ?_ ih
    obtain ⟨h1, h2⟩ := h
    by_cases e : p.1 = k
    · rw [if_pos e, if_pos (h1.symm.trans e)]; exact ⟨h1, ry⟩
    · rw [if_neg e, if_neg (fun z => e (h1.trans z))]; exact ⟨h1, h2⟩
theorem KV.put {kvs : List (κ × V)} {vs : List (κ × Value)} (r : KV kvs vs) (k : κ) {y : V} {u : Value} (ry : RelV y u) : KV (putK kvs k y) (stored vs k u) := by
  unfold putK stored
  rw [r.any k]
  by_cases e : (vs.any fun kv => decide (kv.1 = k)) = true
  · rw [if_pos e, if_pos e]; exact r.repl k ry
  · rw [if_neg e, if_neg e]; exact Paired.snoc r ⟨rfl, ry⟩
theorem KV.keys {kvs : List (κ × V)} {vs : List (κ × Value)} (r : KV kvs vs) : kvs.map (·.1) = vs.map (·.1) := by
  unfold KV at r
  induction r with
  | nil => rfl
  | cons h t ih => rw [List.map_cons, List.map_cons, ih, h.1]
theorem KV.length {kvs : List (κ × V)} {vs : List (κ × Value)} (r : KV kvs vs) : kvs.length = vs.length := Paired.length r
end
theorem kV_is {P : Program} {w : World} {k : Key} {u : Value} (r : RelV (kV k) u) : (mixKind P w).is k u = true := by
  cases k with
  | inl i => obtain ⟨t, e⟩ := (show ∃ t, u = Value.int i t from r); subst e; exact mixKind_int P w i t
  | inr x => obtain ⟨t, e⟩ := (show ∃ t, u = Value.str x t from r); subst e; exact mixKind_str P w x t
theorem items_are {P : Program} {w : World} : ∀ {ks : List Key} {us : List Value}, Vals (ks.map kV) us → ItemsAre (mixKind P w) ks us
  | [], _, r => by rw [List.map_nil] at r; cases r; exact .nil
  | k :: ks, _, r => by
    rw [List.map_cons] at r
    cases r with
    | cons h t => exact .cons (kV_is h) (items_are t)
noncomputable abbrev KT (H : Hp) : List (List Key × V) → List (List Key × Addr × Value) → Prop := Paired fun p q => p.1 = q.1 ∧ H q.2.1 = some (.tup (p.1.map kV)) ∧ RelV p.2 q.2.2
theorem KT.val {H : Hp} {kvs : List (List Key × V)} {xs : List (List Key × Addr × Value)} (r : KT H kvs xs) (k : List Key) : RelO (valV kvs k) ((atKey xs k).map (·.2)) := by
  induction r with
  | nil => exact True.intro
  | @cons p q ps qs h t ih =>
    obtain ⟨h1, _, h2⟩ := h
    by_cases e : p.1 = k
    · have e' : q.1 = k := h1.symm.trans e
      have b : atKey (q :: qs) k = some q.2 := by simp [atKey, List.find?_cons, e']
      rw [valV_pos e, b]; exact h2
    · have e' : ¬ q.1 = k := fun z => e (h1.trans z)
      have b : atKey (q :: qs) k = atKey qs k := by simp [atKey, List.find?_cons, e']
      rw [valV_neg e, b]; exact ih
theorem KT.repl {H : Hp} {kvs : List (List Key × V)} {xs : List (List Key × Addr × Value)} (r : KT H kvs xs) (k : List Key) {y : V} {u : Value} (ry : RelV y u) :
    KT H (kvs.map fun kv => if kv.1 = k then (kv.1, y) else kv) (xs.map (putAt k u)) := by
  induction r with
  | nil => exact .nil
  | @cons p q ps qs h t ih =>
    rw [List.map_cons, List.map_cons]
    refine .cons ?_ ih
    obtain ⟨h1, h2, h3⟩ := h
    unfold putAt
    by_cases e : p.1 = k
    · rw [if_pos e, if_pos (h1.symm.trans e)]; exact ⟨h1, h2, ry⟩
    · rw [if_neg e, if_neg (fun z => e (h1.trans z))]; exact ⟨h1, h2, h3⟩
theorem KT.put {H : Hp} {kvs : List (List Key × V)} {xs : List (List Key × Addr × Value)} (r : KT H kvs xs) (k : List Key) {b : Addr} {y : V} {u : Value} (hb : H b = some (.tup (k.map kV))) (ry : RelV y u) :
    KT H (putK kvs k y) (storedH xs k b u) := by
  have e : (kvs.any fun kv => decide (kv.1 = k)) = (atKey xs k).isSome := by
    rw [valV_any, (r.val k).isSome_eq, Option.isSome_map]
  unfold putK storedH
  rw [e]
  by_cases q : (atKey xs k).isSome = true
  · rw [if_pos q, if_pos q]; exact r.repl k ry
  · rw [if_neg q, if_neg q]; exact Paired.snoc r ⟨rfl, hb, ry⟩
theorem KT.keeps {H H' : Hp} {kvs : List (List Key × V)} {xs : List (List Key × Addr × Value)} (r : KT H kvs xs) (ht : ∀ b ys, H b = some (.tup ys) → H' b = some (.tup ys)) : KT H' kvs xs :=
  Paired.mapP r fun _ _ z => ⟨z.1, ht _ _ z.2.1, z.2.2⟩
section
variable {P : Program} {w : World} {H : Hp} {h : Heap} {a : Addr}
theorem rd_of {u : HO} (ok : HOk P w H h) (e : Rd H a u) : ObjOk P w H h a u := e.ok ok
theorem dk_rd {kvs : List (Key × V)} (ok : HOk P w H h) (e : Rd H a (.dK kvs)) : kvs.length ≤ sizeLine ∧ (a == sysModules) = false ∧ ∃ vs, KV kvs vs ∧ h.DictOf (mixKind P w) a vs :=
  show ObjOk P w H h a (.dK kvs) from rd_of ok e
theorem dk_of {kvs : List (Key × V)} (ok : HOk P w H h) (e : H a = some (.dK kvs)) : kvs.length ≤ sizeLine ∧ (a == sysModules) = false ∧ ∃ vs, KV kvs vs ∧ h.DictOf (mixKind P w) a vs := dk_rd ok (.inl e)
theorem key_of {ks : List Key} (ok : HOk P w H h) (e : H a = some (.tup (ks.map kV))) : (tupleKind (mixKind P w)).is h ks a := by
  obtain ⟨_, its, r, o, h1, h2, n, h3⟩ := (show ObjOk P w H h a (.tup (ks.map kV)) from ok a _ e)
  exact ⟨o, its.toArray, n, h1, h2, h3, by simpa using items_are r⟩
theorem dt_rd {kvs : List (List Key × V)} (ok : HOk P w H h) (e : Rd H a (.dT kvs)) : kvs.length ≤ sizeLine ∧ (a == sysModules) = false ∧
    ∃ xs, KT H kvs xs ∧ h.DictOfH (tupleKind (mixKind P w)) a xs := by
  obtain ⟨z, y, xs, r, o, es, ep, h1, h2, h3, h4, h5⟩ := (show ObjOk P w H h a (.dT kvs) from rd_of ok e)
  refine ⟨z, y, xs, r, o, es, ep, h1, h2, h3, h4, fun x hx => ?_, h5⟩
  have all : ∀ {l : List (List Key × V)} {m : List (List Key × Addr × Value)}, KT H l m → ∀ x ∈ m, (tupleKind (mixKind P w)).is h x.1 x.2.1 := by
    intro l m q
    induction q with
    | nil => intro x hx; exact nomatch hx
    | @cons p q ps qs hq t ih =>
      intro x hx
      rcases List.mem_cons.mp hx with e | hx
      · subst e
        exact key_of ok (by rw [← hq.1]; exact hq.2.1)
      · exact ih x hx
  exact all r x hx
theorem dt_of {kvs : List (List Key × V)} (ok : HOk P w H h) (e : H a = some (.dT kvs)) : kvs.length ≤ sizeLine ∧ (a == sysModules) = false ∧
    ∃ xs, KT H kvs xs ∧ h.DictOfH (tupleKind (mixKind P w)) a xs := dt_rd ok (.inl e)
end
noncomputable def DGet (H : Hp) (a : Addr) (y : V) (r : Option V) : Prop :=
  (∃ kvs k, Rd H a (.dK kvs) ∧ y = kV k ∧ r = valV kvs k) ∨ ∃ kvs k b, Rd H a (.dT kvs) ∧ y = .ref b ∧ H b = some (.tup (k.map kV)) ∧ r = valV kvs k
noncomputable def DPut (H : Hp) (a : Addr) (y v : V) (H' : Hp) : Prop :=
  (∃ kvs k, H a = some (.dK kvs) ∧ y = kV k ∧ kvs.length < sizeLine ∧ H' = upd H a (.dK (putK kvs k v))) ∨
  ∃ kvs k b, H a = some (.dT kvs) ∧ y = .ref b ∧ H b = some (.tup (k.map kV)) ∧ kvs.length < sizeLine ∧ H' = upd H a (.dT (putK kvs k v))
theorem DGet.k {H : Hp} {a : Addr} {kvs : List (Key × V)} {k : Key} (e : H a = some (.dK kvs)) : DGet H a (kV k) (valV kvs k) := .inl ⟨kvs, k, .inl e, rfl, rfl⟩
theorem DGet.t {H : Hp} {a b : Addr} {kvs : List (List Key × V)} {k : List Key} (e : H a = some (.dT kvs)) (eb : H b = some (.tup (k.map kV))) : DGet H a (.ref b) (valV kvs k) := .inr ⟨kvs, k, b, .inl e, rfl, eb, rfl⟩
theorem DPut.k {H : Hp} {a : Addr} {kvs : List (Key × V)} {k : Key} {v : V} (e : H a = some (.dK kvs)) (hl : kvs.length < sizeLine) : DPut H a (kV k) v (upd H a (.dK (putK kvs k v))) := .inl ⟨kvs, k, e, rfl, hl, rfl⟩
theorem DPut.t {H : Hp} {a b : Addr} {kvs : List (List Key × V)} {k : List Key} {v : V} (e : H a = some (.dT kvs)) (eb : H b = some (.tup (k.map kV))) (hl : kvs.length < sizeLine) :
    DPut H a (.ref b) v (upd H a (.dT (putK kvs k v))) := .inr ⟨kvs, k, b, e, rfl, eb, hl, rfl⟩
section
variable {X : Cx} {pins : List (Addr × Obj)} {σ : St} {H : Hp} {s : Shared} {a : Addr} {y v : V} {u r : Value} {o : Option V} {A : Around} {E : Value → Shared → Prop}
theorem Inv.big (I : Inv X pins σ H s) : sysModules < s.heap.objs.size := by
  have h : mainGlobals < s.heap.objs.size := (I.mod.glob.keeps I.bk).lt
  exact Nat.lt_trans (by decide) h
theorem d_getItem {Q : Value → Shared → Prop} (hu : A.units + 1 < cLine) (I : Inv X pins σ H s) (g : DGet H a y (some v)) (ry : RelV y u) (h : ∀ w' s', Inv X pins σ H s' → RelV v w' → Q w' s') :
    wpAny (model X.prog X.w) A (getItem (.ref a) u) Q E s := by
  rcases g with ⟨kvs, k, e, ey, l⟩ | ⟨kvs, k, b, e, ey, eb, l⟩
  · subst ey
    obtain ⟨z, hd, vs, rel, dd⟩ := dk_rd I.hok e
    obtain ⟨w', hw, rw'⟩ := RelO.some_of (v := v) (o := valueAt vs k) (by rw [l]; exact rel.val k)
    exact wpAny_getItem_of (kV_is ry) dd.mapOf hw (h w' _ (I.tok _) rw')
  · subst ey
    cases (show u = Value.ref b from ry)
    obtain ⟨z, hd, xs, rel, dd⟩ := dt_rd I.hok e
    obtain ⟨w', hw, rw'⟩ := RelO.some_of (v := v) (o := (atKey xs k).map (·.2)) (by rw [l]; exact rel.val k)
    obtain ⟨p, hp, hp2⟩ := Option.map_eq_some_iff.mp hw
    refine wpAny_getItem_heap (tupleKind_room_in1 hu) (key_of I.hok eb) dd hp ?_
    rw [hp2]
    exact h w' _ (I.tok _) rw'
theorem d_write {h' : Heap} {t' : Nat} {ob : HO} (I : Inv X pins σ H s) (mu : Mut (H a)) (hs : Heap.SameBut a s.heap h') (he : ∃ q, h'.get? a = some q) (new : ObjOk X.prog X.w (upd H a ob) h' a ob) :
    Inv X pins σ (upd H a ob) { s with heap := h', toks := t' } :=
  I.write (x := a) (e := a) mu (.inl rfl) (fun b q hb z => (hs.2 b hb).trans z) he new
theorem dk_new {P : Program} {w : World} {H' : Hp} {h' : Heap} {kvs : List (Key × V)} {vs : List (Key × Value)} (z : kvs.length ≤ sizeLine) (hd : (a == sysModules) = false) (rel : KV kvs vs) (dd : h'.DictOf (mixKind P w) a vs) :
    ObjOk P w H' h' a (.dK kvs) := ⟨z, hd, vs, rel, dd⟩
theorem d_setItem {H' : Hp} {Q : Unit → Shared → Prop} (hu : A.units + 1 < cLine) (I : Inv X pins σ H s) (g : DPut H a y v H') (ry : RelV y u) (rv : RelV v r) (h : ∀ s', Inv X pins σ H' s' → Q () s') :
    wpAny (model X.prog X.w) A (setItem (.ref a) u r) Q E s := by
  rcases g with ⟨kvs, k, e, ey, l, eH⟩ | ⟨kvs, k, b, e, ey, eb, l, eH⟩
  · subst ey eH
    obtain ⟨z, hd, vs, rel, dd⟩ := dk_of I.hok e
    have hz : vs.length ≤ sizeLine := by rw [← rel.length]; exact z
    have hl : (putK kvs k v).length ≤ sizeLine := by have := length_putK kvs k v; omega
    refine wpAny_setItem_pairs (hsz := hz) (kV_is ry) dd fun h' dd' hs => h _ ?_
    have he : ∃ q, h'.get? a = some q := let ⟨q, _, _, hq, _⟩ := dd'; ⟨q, hq⟩
    exact d_write I (by rw [e]; exact True.intro) hs he (dk_new hl hd (rel.put k rv) dd')
  · subst ey eH
    cases (show u = Value.ref b from ry)
    obtain ⟨z, hd, xs, rel, dd⟩ := dt_of I.hok e
    have hz : xs.length ≤ sizeLine := by rw [← Paired.length rel]; exact z
    have hl : (putK kvs k v).length ≤ sizeLine := by have := length_putK kvs k v; omega
    refine wpAny_setItem_heap (hsz := hz) (tupleKind_room_in1 hu) (key_of I.hok eb) dd fun h' dd' hs => h _ ?_
    obtain ⟨q, es, ep, hq, h2, h3, h4, _, h5⟩ := dd'
    refine d_write I (by rw [e]; exact True.intro) hs ⟨q, hq⟩ ⟨hl, hd, _, (rel.put k eb rv).keeps fun c ys ec => ?_, q, es, ep, hq, h2, h3, h4, h5⟩
    rw [upd_ne (ne_of ec e (fun z => nomatch z))]
    exact ec
end
section
variable {X : Cx} {pins : List (Addr × Obj)} {σ : St} {H : Hp} {s : Shared} {a : Addr} {kvs : List (Key × V)} {k : Key} {u : Value} {A : Around} {E : Value → Shared → Prop}
theorem d_len {Q : Value → Shared → Prop} (I : Inv X pins σ H s) (e : Rd H a (.dK kvs)) (h : ∀ t s', Inv X pins σ H s' → Q (.int kvs.length t) s') : wpAny (model X.prog X.w) A (call (.builtin "len") [.ref a]) Q E s := by
  obtain ⟨z, hd, vs, rel, dd⟩ := dk_rd I.hok e
  refine call_len_dict hd dd (by rw [← rel.length]; rw [sizeLine_eq] at z; omega) ?_
  rw [← rel.length]
  exact h _ _ (I.tok _)
end
noncomputable def NoSl (i : Expr) : Prop := ∀ ov iv, subscripted i false ov iv = operate [ov, iv] (getItem ov iv)
theorem subD_of {prog : Program} {w : World} {A : Around} {E : Value → Shared → Prop} {s : Shared} {env : Env} {value slice : Expr} {pos : Pos} {T id : String} {Q : Value → Shared → Prop}
    (hl : typeLookup (.type T) "__getitem__" = pure (some (.builtin id))) (hs : NoSl slice)
    (h : wpAny (model prog w) A (eval value env) (fun o s₁ => wpAny (model prog w) A (eval slice env) (fun i s₂ => s₂.TypeIs o T ∧ wpAny (model prog w) A (getItem o i) Q E s₂) E s₁) E s) :
    wpAny (model prog w) A (eval (.Subscript value slice pos) env) Q E s := by
  refine Subscript_ (wpAny_mono h (fun o s₁ h₁ => wpAny_mono h₁ (fun i s₂ h₂ => ?_) fun _ _ x => x) fun _ _ x => x)
  obtain ⟨hT, h₂⟩ := h₂
  unfold subscriptTail
  refine wpAny_bind ?_
  rw [getitemInPython_of_ne hT.not_modules]
  refine wpAny_bind (wpAny_specialOf hT hl ?_)
  have fin : wpAny (model prog w) A (subscripted slice false o i) (fun r s₃ => wpAny (model prog w) A (letTemporaryGo value o r >>= fun _ => pure r) Q E s₃) E s₂ := by
    rw [hs o i]
    exact wpAny_operating (wpAny_mono h₂ (fun r s₃ h₃ => wpAny_bind (wpAny_letTemporaryGo (wpAny_pure h₃))) fun _ _ x => x)
  first
    | exact wpAny_pure (wpAny_bind fin)
    | exact wpAny_bind (wpAny_pure (wpAny_bind fin))
    | exact wpAny_bind fin
theorem dict_typeIs {X : Cx} {pins : List (Addr × Obj)} {σ : St} {H : Hp} {s : Shared} {a : Addr} {y : V} {o : Option V} (I : Inv X pins σ H s) (g : DGet H a y o) : s.TypeIs (.ref a) "dict" := by
  rcases g with ⟨kvs, k, e, _, _⟩ | ⟨kvs, k, b, e, _, _, _⟩
  · obtain ⟨_, _, vs, _, dd⟩ := dk_rd I.hok e
    exact dd.typeIs
  · obtain ⟨_, _, xs, _, dd⟩ := dt_rd I.hok e
    exact dd.typeIs
noncomputable def tDGet (td ty : TE) : TE := fun σ H Q => td σ H fun x H1 => ty σ H1 fun y H2 => ∃ a v, x = .ref a ∧ DGet H2 a y (some v) ∧ Q v H2
noncomputable def sDPut (td ty tv : TE) : TS := fun D σ H => tv σ H fun v H1 => td σ H1 fun x H2 => ty σ H2 fun y H3 => ∃ a H4, x = .ref a ∧ DPut H3 a y v H4 ∧ D.nx σ H4
section
variable {X : Cx} {o i e value : Expr} {pos pos' tpos : Pos} {td ty tv : TE}
theorem pe_dget (hu : X.A.units + 1 < cLine) (ho : PE X o td) (hi : PE X i ty) (hs : NoSl i) : PE X (.Subscript o i pos) (tDGet td ty) := by
  intro pins s σ H Q I h
  refine subD_of PySem.F.slot_dict_getitem.lookup hs (thn (ho pins s σ H _ I h) fun u s1 ⟨x, H1, I1, rx, q1⟩ => thn (hi pins s1 σ H1 _ I1 q1) fun iv s2 ⟨y, H2, I2, ry, a, v, ex, g, q2⟩ => ?_)
  subst ex
  obtain rfl : u = Value.ref a := rx
  exact ⟨dict_typeIs I2 g, d_getItem hu I2 g ry fun w' s3 I3 rw' => ⟨v, H2, I3, rw', q2⟩⟩
theorem ps_dput (hu : X.A.units + 1 < cLine) (ho : PE X o td) (hi : PE X i ty) (hv : PE X value tv) (hs : swapsWith value (some (.Subscript o i pos')) pos.line X.env = pure false) :
    PS X (.Assign [.Subscript o i pos'] value pos) (sDPut td ty tv) := by
  intro pins s σ H D I h
  refine wpAny_Assign_Subscript (thn (hv pins s σ H _ I h) fun r s1 ⟨v, H1, I1, rv, q1⟩ => thn (ho pins s1 σ H1 _ I1 q1) fun u s2 ⟨x, H2, I2, rx, q2⟩ => thn (hi pins s2 σ H2 _ I2 q2) fun iv s3 ⟨y, H3, I3, ry, a, H4, ex, g, q3⟩ => ?_) hs
  subst ex
  obtain rfl : u = Value.ref a := rx
  exact d_setItem hu I3 g ry rv fun s4 I4 => ⟨σ, H4, I4, q3⟩
end
theorem dk_empty {P : Program} {w : World} {H : Hp} (h : Heap) (hb : sysModules < h.objs.size) : ObjOk P w H (h.push { cls := .type "dict", data := .dict #[] }) h.objs.size (.dK []) :=
  ⟨Nat.zero_le _, beq_eq_false_iff_ne.mpr (Ne.symm (Nat.ne_of_lt hb)), [], .nil, Heap.DictOf.new h⟩
theorem dt_empty {P : Program} {w : World} {H : Hp} (h : Heap) (hb : sysModules < h.objs.size) : ObjOk P w H (h.push { cls := .type "dict", data := .dict #[] }) h.objs.size (.dT []) :=
  ⟨Nat.zero_le _, beq_eq_false_iff_ne.mpr (Ne.symm (Nat.ne_of_lt hb)), [], .nil, _, #[], 0, Heap.get?_push_size _ rfl, ⟨rfl, rfl, rfl⟩, rfl, rfl, List.nodup_nil⟩
noncomputable def tDNewK : TE := fun _ H Q => ∀ p, H p = none → Q (.ref p) (upd H p (.dK []))
noncomputable def tDNewT : TE := fun _ H Q => ∀ p, H p = none → Q (.ref p) (upd H p (.dT []))
section
variable {X : Cx} {pos : Pos}
theorem pe_dnewK : PE X (.Dict [] [] pos) tDNewK := fun pins s σ H Q I h =>
  wpAny_Dict_empty ⟨.ref s.heap.objs.size, _, I.laid (a := s.heap.objs.size) (o := .dK []) (t' := s.toks) (fun _ _ q => Heap.get?_push_of_some _ q) (Nat.le_refl _) (dk_empty s.heap I.big), rfl, h _ (I.hok.fresh (Nat.le_refl _))⟩
theorem pe_dnewT : PE X (.Dict [] [] pos) tDNewT := fun pins s σ H Q I h =>
  wpAny_Dict_empty ⟨.ref s.heap.objs.size, _, I.laid (a := s.heap.objs.size) (o := .dT []) (t' := s.toks) (fun _ _ q => Heap.get?_push_of_some _ q) (Nat.le_refl _) (dt_empty s.heap I.big), rfl, h _ (I.hok.fresh (Nat.le_refl _))⟩
end
noncomputable def mergeK (kvs more : List (Key × V)) : List (Key × V) := more.foldl (fun acc kv => putK acc kv.1 kv.2) kvs
theorem KV.merge : ∀ {more : List (Key × V)} {rs : List (Key × Value)} {kvs : List (Key × V)} {vs : List (Key × Value)}, KV more rs → KV kvs vs → KV (mergeK kvs more) (merged vs rs) := by
  intro more rs kvs vs r
  unfold KV at r
  induction r generalizing kvs vs with
  | nil => intro q; exact q
  | @cons p q ps qs h t ih =>
    intro r0
    have e : KV (putK kvs p.1 p.2) (stored vs q.1 q.2) := by
      have := r0.put p.1 h.2
      rw [← h.1]; exact this
    exact ih e
section
variable {X : Cx} {pins : List (Addr × Obj)} {σ : St} {H : Hp} {s : Shared} {a : Addr} {y d : V} {u r : Value} {o : Option V} {A : Around} {E : Value → Shared → Prop}
end
section
variable {X : Cx} {o e f : Expr} {apos cpos : Pos} {td ty tx : TE}
end
section
variable {X : Cx} {pins : List (Addr × Obj)} {σ : St} {H : Hp} {s : Shared} {a : Addr} {kvs : List (Key × V)} {A : Around} {E : Value → Shared → Prop}
end
section
variable {X : Cx} {pins : List (Addr × Obj)} {σ : St} {H : Hp} {s : Shared} {a : Addr} {y : V} {u : Value} {A : Around} {E : Value → Shared → Prop}
end
end L2
namespace Att
open PySem PySem.W PySem.Calls PyProof.Rows
theorem ints_of_wellAll {P : Params} {h : Heap} : ∀ (ns : List Int) (vs : List Value), WellAll P h vs (ns.map WData.int) → IntsAre vs ns := by
  intro ns
  induction ns with
  | nil =>
    intro vs w
    rw [List.map_nil] at w
    cases w
    exact .nil
  | cons n ns ih =>
    intro vs w
    rw [List.map_cons] at w
    cases w with
    | cons a b =>
      cases a
      exact .cons _ _ (ih _ b)
theorem script_of {l : OpenLaw} {n : Nat} (hn : l.most = some n) {P : Params} {h : Heap} {args : List WData} {vals : List Value}
    (hpre : l.row.toRowW.claim.pre args = true) (hwl : WellAll P h vals args) :
    ∃ a vs ns, vals = [Value.ref a] ∧ args = [WData.list (ns.map WData.int)] ∧ h.get? a = some { cls := .type "list", data := .seq vs.toArray } ∧ IntsAre vs ns ∧ ns.length ≤ n := by
  have hsh : WShape.hasAll [] args [.list .int] = true := (pre_splitW hpre).1
  have hc : l.pre.holds [] { args := args } = true := (pre_splitW hpre).2
  obtain ⟨d, r, rfl, h1, h2⟩ := hasAllW_cons hsh
  obtain rfl := hasAllW_nil h2
  obtain ⟨xs, rfl, h3⟩ := hasW_list h1
  obtain ⟨ns, rfl⟩ := items_int h3
  have hlen : ns.length ≤ n := by
    unfold OpenLaw.pre at hc
    have h4 : (WTm.not (.lt (.lit (.int (n : Int))) (.len (.arg 0)))).holds [] { args := [.list (ns.map .int)] } = true := by
      have h4 := (holds_andW hc).1
      rw [hn] at h4
      exact h4
    have h5 := condW_of h4 (w_not (w_lt w_lit (w_len_list (w_arg rfl))))
    rw [List.length_map] at h5
    refine Nat.le_of_not_lt fun q => ?_
    have q' : (n : Int) < ((ns.length : Nat) : Int) := by omega
    first
      | (rw [decide_eq_true q'] at h5; exact absurd h5 (by decide))
      | (simp at h5; omega)
  cases hwl with
  | cons w1 w2 =>
    cases w2
    cases w1 with
    | list ho hall => exact ⟨_, _, ns, rfl, rfl, ho, ints_of_wellAll ns _ hall, hlen⟩
theorem post_true (l : OpenLaw) (args : List WData) : l.row.toRowW.claim.post args (.bool true) args = true :=
  postW_of (r := l.row.toRowW) (X := (true == true))
    (show WShape.has [] (.bool true) .bool = true by first | rfl | decide | simp [WShape.has, WShape.arms, WShape.armsAll])
    (show (WTm.eq .res (.lit (.bool true))).value [] { args := args, res := some (.bool true), after := args } = some (.bool (true == true)) from w_eq_bool (w_res rfl) w_lit) rfl
section
variable {prog : Program} {w : World} {A : Around} {E : Value → Shared → Prop} {s : Shared} {K : Frag}
end
end Att
namespace L2
open PySem PySem.Spec PyProof.Rows
theorem vals_ints : ∀ {vs : List Value} {ns : List Int}, IntsAre vs ns → Vals (ns.map V.int) vs
  | _, _, .nil => .nil
  | _, _, .cons n t h => .cons ⟨t, rfl⟩ (vals_ints h)
noncomputable def Only (H : Hp) : Prop := ∀ b, H b = none ∨ ∃ o xs, H b = some (.frz o (.lst xs))
theorem law_call {P : Program} {w : World} {K : PySem.W.Frag} {mg mb : Str → Option Value} {CX : CXT} {k : Nat} {fa a : Addr} {fd : FuncData} {x : Str} {sp : Sp} {s₁ : Shared} {vs : List Value} {ns : List Int}
    (KX : K.In s₁.heap) (hns : s₁.heap.Ns mainGlobals mg) (hb : s₁.heap.Ns builtinsNs mb) (hbb : ∀ x : Str, x ≠ "__name__" → mb x = bootBuiltins x) (hlim : s₁.heap.NoLimit) (hg : s₁.gens = #[])
    (ha : s₁.heap.get? a = some { cls := .type "list", data := .seq vs.toArray }) (hi : IntsAre vs ns) (hl : ns.length ≤ sizeLine) (hr : Room k callerA)
    (F : ∀ base : Heap, K.In base → base.Ns mainGlobals mg → FnOk P w K mg base CX k fa fd [x] sp) (hbind : ∀ (s : Shared) (u : Value), BindsTo s fd ⟨[u], []⟩ [(x, u)])
    (hsp : ∀ H : Hp, Only H → SqL K H a (ns.map V.int) → sp [.ref a] H (fun v _ => v = .bl true) fun _ _ _ => False)
    (hCX : ∀ H e s', CX [] H s₁ (fun _ _ _ => False) e s' → False) :
    codeAny (model P w) callerA (.call (.ref fa) ⟨[.ref a], []⟩) (fun r s' => r = .ok (.ret (.bool true)) ∧ OldK s₁.heap s'.heap ∧ s'.os = s₁.os ∧ AllBare s'.gens) s₁ := by
  have rv := vals_ints hi
  have lenV := hi.length
  -- from an abstract heap in which nothing but the script may be tracked
  have core : ∀ H : Hp, Only H → SqL K H a (ns.map V.int) → HOk P w H s₁.heap → (∀ b, H b ≠ none → b = a) → (H a ≠ none → K.lookup a = none) →
      codeAny (model P w) callerA (.call (.ref fa) ⟨[.ref a], []⟩) (fun r s' => r = .ok (.ret (.bool true)) ∧ OldK s₁.heap s'.heap ∧ s'.os = s₁.os ∧ AllBare s'.gens) s₁ := by
    intro H hO hS hok hA hK
    have base_of : ∀ {b : Addr} {o : Obj}, s₁.heap.get? b = some o → H b = none → (hidT s₁.heap H).get? b = some o := fun e n => hidT_get e n
    have noA : ∀ {b : Addr} {o : Obj} {es : Array DictEntry} {ep : Nat}, s₁.heap.get? b = some o → o.data = .dict es ep → H b = none := fun {b o es ep} e d => by
      cases q : H b with
      | none => rfl
      | some u =>
        have e' : b = a := hA b (by rw [q]; simp)
        subst e'
        rw [ha] at e; cases e
        have d' : Data.seq vs.toArray _ = Data.dict es ep := d
        cases d'
    have nsK : ∀ {b : Addr} {m : Str → Option Value}, s₁.heap.Ns b m → (hidT s₁.heap H).Ns b m := fun {b m} ⟨o, es, ep, e, d, r⟩ => ⟨o, es, ep, base_of e (noA e d), d, r⟩
    have hKb : K.In (hidT s₁.heap H) := fun b o e => base_of (KX b o e) (by
      cases q : H b with
      | none => rfl
      | some u =>
        have e' : b = a := hA b (by rw [q]; simp)
        subst e'
        rw [hK (by rw [q]; simp)] at e; cases e)
    have hM : Mod K mg (hidT s₁.heap H) := ⟨hKb, nsK hns, ⟨mb, nsK hb, hbb⟩, let ⟨mc, h1, h2⟩ := hlim; ⟨mc, nsK h1, h2⟩⟩
    have e0 : Env0 P w K mg (hidT s₁.heap H) callerA [] s₁ H := ⟨rfl, hM, fun b o e => of_hidT e, Nat.le_of_eq (hidT_size _ _), trivial, fun b hb => absurd (show b ∈ ([] : List Addr) from hb) (by simp), hok, .of_eq hg⟩
    refine codeAny_mono ((F _ hKb (nsK hns)).run callerA [] s₁ H ⟨[.ref a], []⟩ [.ref a] [.ref a] _ _ hr e0 (hbind s₁ (.ref a)) (.cons rfl .nil) (hsp H hO hS)) fun r s' h => ?_
    cases r with
    | error e => exact (hCX H e s' h).elim
    | ok fl =>
      cases fl with
      | next => exact False.elim h
      | brk => exact False.elim h
      | cont => exact False.elim h
      | ret u =>
        obtain ⟨v, H', os, bare, un, hok', r', q⟩ := h
        have q' : v = .bl true := q
        subst q'
        obtain rfl : u = Value.bool true := r'
        refine ⟨rfl, OldK.of_keep fun b o e => ?_, os, bare⟩
        cases q : H b with
        | none => exact un.keep b o e q (by intro z; exact absurd (show b ∈ ([] : List Addr) from z) (by simp)) (by simp)
        | some u =>
          rcases hO b with z | ⟨ob, xs, z⟩
          · rw [q] at z; cases z
          · have z2 := un.frzs b ob _ z
            obtain ⟨e1, _⟩ := hok b _ z
            obtain ⟨e2, _⟩ := hok' b _ z2
            rw [e] at e1; cases e1
            exact e2
  cases hk : K.lookup a with
  | some o =>
    -- the script is one of the module's own objects
    have e := KX a o hk
    rw [ha] at e
    cases e
    refine core (fun _ => none) (fun _ => .inl rfl) (.inr ⟨_, vs.toArray, _, hk, rfl, rfl, rfl, by rw [List.size_toArray, lenV]; exact hl, by simpa using rv⟩) (fun b u z => by have z' : (none : Option HO) = some u := z; cases z') (fun b z => absurd rfl z) fun z => absurd rfl z
  | none =>
    refine core (fun b => if b = a then some (.frz { cls := .type "list", data := .seq vs.toArray } (.lst (ns.map V.int))) else none) (fun b => ?_) (.inl (.inr ⟨{ cls := .type "list", data := .seq vs.toArray }, if_pos rfl⟩)) (fun b u z => ?_) (fun b z => ?_) fun _ => hk
    · by_cases hb : b = a
      · exact .inr ⟨_, _, if_pos hb⟩
      · exact .inl (if_neg hb)
    · by_cases hb : b = a
      · have z' := (if_pos hb).symm.trans z
        cases z'
        subst hb
        exact ⟨ha, by rw [List.length_map]; exact hl, vs, _, rv, ha⟩
      · have z' := (if_neg hb).symm.trans z
        cases z'
    · by_cases hb : b = a
      · exact hb
      · exact absurd (if_neg hb) z
end L2
namespace L2
open PySem PySem.Spec PyProof.Rows
end L2
namespace L2
open PySem PySem.Spec PyProof.Rows
noncomputable def defArgs (s : Stmt) : Arguments := match s with
  | .FunctionDef _ a _ _ _ _ _ _ _ _ => a
  | _ => { posonlyargs := [], args := [], vararg := none, kwonlyargs := [], kw_defaults := [], kwarg := none, defaults := [] }
noncomputable def defBody (s : Stmt) : List Stmt := match s with
  | .FunctionDef _ _ b _ _ _ _ _ _ _ => b
  | _ => []
noncomputable def defScope (s : Stmt) : Scope := match s with
  | .FunctionDef _ _ _ _ _ _ sc _ _ _ => sc
  | _ => { kind := .function, names := [], isGenerator := false, isCoroutine := false }
noncomputable abbrev CX0 : CXT := fun _ _ _ _ _ _ => False
noncomputable abbrev E0 : XK := fun _ _ _ => False
theorem pass0 {X : Cx} : Passes CX0 X E0 := fun _ _ _ _ _ _ _ h => h.elim
structure Fun (K : PySem.W.Frag) (x qual : Str) (st : Stmt) (f : Addr) (fd : FuncData) : Prop where
  ex : ∃ (oc : Value) (od : Option Addr) (kV doc pm : Value) (an : Option Addr) (cdv ct : Value) (osl : Array (Option Value)),
    fd = PySem.W.fnOf x qual (defArgs st) (defBody st) (defScope st) .none kV doc pm an cdv ct ∧ K.lookup f = some ⟨oc, od, .func fd, osl⟩ ∧ PySem.W.codeIn K cdv qual = true
  kp : PySem.W.keepIn K (.ref f) = true
section
variable {P : Program} {w : World} {K : PySem.W.Frag} {mg : Str → Option Value} {base : Heap}
theorem Fun.ok {x qual : Str} {st : Stmt} {f : Addr} {fd : FuncData} {N ps : List Str} {k : Nat} {sp : Sp} (F : Fun K x qual st f fd) (S : FnScope N ps (defScope st)) (len : ∀ vs H Q E, sp vs H Q E → vs.length = ps.length)
    (hbody : ∀ (cdv : Value) (A : Around) (outer : List Env) (s : Shared) (H : Hp) (vs : List V) (Q : VK) (E : XK), Room k (A.deeper (envOfC qual (defScope st) s.heap.objs.size f cdv)) → sp vs H Q E →
      ∃ t, PSs (cxOf CX0 P w K mg base N qual (defScope st) f cdv A outer s H E).nox (defBody st) t ∧ t { nx := fun _ H' => Q .non H', rt := Q } (start N vs) H) : FnOk P w K mg base CX0 (k + 1) f fd ps sp := by
  obtain ⟨oc, od, kV, doc, pm, an, cdv, ct, osl, rfl, lk, hcd⟩ := F.ex
  refine fn_of lk hcd S len fun A outer s H vs Q E hr hsp => ?_
  obtain ⟨t, h, q⟩ := hbody cdv A outer s H vs Q E hr hsp
  exact ⟨t, h.nox, q⟩
theorem Fun.binds {x qual : Str} {st : Stmt} {f : Addr} {fd : FuncData} {ps : List Str} (F : Fun K x qual st f fd)
    (h : ∀ (kV doc pm : Value) (an : Option Addr) (cdv ct : Value) (us : List Value), us.length = ps.length → bindArgs (PySem.W.fnOf x qual (defArgs st) (defBody st) (defScope st) .none kV doc pm an cdv ct) ⟨us, []⟩ = pure (ps.zip us)) : Binds K fd ps [] := by
  obtain ⟨oc, od, kV, doc, pm, an, cdv, ct, osl, rfl, lk, hcd⟩ := F.ex
  exact .all (h kV doc pm an cdv ct)
theorem fun_mk {x qual : Str} {st : Stmt} {f : Addr} {oc : Value} {od an : Option Addr} {osl : Array (Option Value)} {kV doc pm cdv ct : Value} (l : K.lookup f = some ⟨oc, od, .func (PySem.W.fnOf x qual (defArgs st) (defBody st) (defScope st) .none kV doc pm an cdv ct), osl⟩)
    (c : PySem.W.codeIn K cdv qual = true) (k : PySem.W.keepIn K (.ref f) = true) : Fun K x qual st f (PySem.W.fnOf x qual (defArgs st) (defBody st) (defScope st) .none kV doc pm an cdv ct) := ⟨⟨oc, od, kV, doc, pm, an, cdv, ct, osl, rfl, l, c⟩, k⟩
end
theorem hu_of {A : Around} {k : Nat} (hr : Room k A) : A.units + 1 < cLine := Nat.lt_of_le_of_lt (Nat.add_le_add_left (by decide : 1 ≤ 64) _) hr.units
section
variable {X : Cx}
end
theorem ite2 {c A B : Prop} [Decidable c] (h1 : c → A) (h2 : ¬ c → B) : if c then A else B := by
  by_cases h : c
  · rw [if_pos h]
    exact h1 h
  · rw [if_neg h]
    exact h2 h
noncomputable def Same (H H' : Hp) : Prop := ∀ b o, H b = some o → H' b = some o
theorem Same.refl (H : Hp) : Same H H := fun _ _ h => h
theorem Same.trans {H H1 H2 : Hp} (a : Same H H1) (b : Same H1 H2) : Same H H2 := fun c o h => b c o (a c o h)
end L2
namespace L2
open PySem PySem.Spec PyProof.Rows
section
variable {X : Cx}
theorem call_lenD : CallR X (.builtin "len") (fun xs H Q => ∃ a kvs, xs = [V.ref a] ∧ H a = some (.dK kvs) ∧ Q (.int kvs.length) H) := by
  intro pins s σ H xs us Q I r h
  obtain ⟨a, kvs, rfl, ha, q⟩ := h
  obtain ⟨u, rfl, ru⟩ := vals1 r
  cases ru
  exact d_len I (.inl ha) fun t s' I' => ⟨.int kvs.length, H, I', ⟨t, rfl⟩, q⟩
end
section
variable {κ : Type} [DecidableEq κ]
theorem valV_in {kvs : List (κ × V)} {k : κ} {v : V} (h : valV kvs k = some v) : k ∈ kvs.map (·.1) := by
  have q : (kvs.any fun kv => decide (kv.1 = k)) = true := by
    rw [valV_any, h]
    all_goals rfl
  obtain ⟨p, hp, e⟩ := List.any_eq_true.mp q
  exact List.mem_map.mpr ⟨p, hp, of_decide_eq_true e⟩
end
end L2
set_option maxHeartbeats 4000000
namespace L2
open PySem PySem.Spec PyProof.Rows
noncomputable def relabelS (scope sc : Scope) : Scope :=
  { scope with names := scope.names.map fun (n, k) => if (k == .free && sc.kind == .function && sc.names.lookup n == some .cell) then (n, .cell) else (n, k) }
structure BI where
  cells : List (Str × Addr)
  C : Addr
  s : Shared
  H : Hp
  fp : List Addr
  pins : List (Addr × Obj)
noncomputable def envB (scope : Scope) (cells : List (Str × Addr)) (C : Addr) (env : Env) : Env :=
  { scope := relabelS scope env.scope, locals := C, globals := env.globals, cells := cells, qual := env.qual, func := none, code := env.code, frame := env.frame, builtins := env.builtins }
noncomputable def blk (X : Cx) (scope : Scope) (N : List Str) (b : BI) : Cx where
  prog := X.prog
  w := X.w
  K := X.K
  mg := X.mg
  base := X.base
  A := X.A
  N := N
  s₀ := b.s
  H₀ := b.H
  env := envB scope b.cells b.C X.env
  outer := X.stack
  stack := X.stack
  ex := b.fp
  fn := fun x => scope.names.lookup x == some .cell
  calm := X.calm
  pn := X.pn ++ b.pins
  xe := fun _ _ => False
noncomputable def closOf (env : Env) : List (Str × NameKind) → List (Str × Addr) → List (Str × Addr)
  | [], acc => acc
  | (n, k) :: r, acc => if k == .free then closOf env r ((n, (env.cells.lookup n).getD 0) :: acc) else closOf env r acc
theorem forIn_clos (env : Env) (f : Str × NameKind → List (Str × Addr) → Sem (ForInStep (List (Str × Addr))))
    (hf : ∀ n k cs, f (n, k) cs = if k == .free then (cellOf env n >>= fun a => pure (.yield ((n, a) :: cs))) else pure (.yield cs)) :
    ∀ (names : List (Str × NameKind)) (acc : List (Str × Addr)), (∀ y ∈ names, y.2 = .free → ∃ c, env.cells.lookup y.1 = some c) → forIn names acc f = (pure (closOf env names acc) : Sem _)
  | [], acc, _ => by rw [List.forIn_nil]; rfl
  | (n, k) :: r, acc, h => by
    rw [List.forIn_cons, hf]
    have hr : ∀ y ∈ r, y.2 = .free → ∃ c, env.cells.lookup y.1 = some c := fun y hy => h y (List.mem_cons_of_mem _ hy)
    cases hk : k == NameKind.free with
    | true =>
      obtain ⟨c, hc⟩ := h (n, k) List.mem_cons_self (beq_iff_eq.mp hk)
      have e1 : cellOf env n = pure c := by unfold cellOf; rw [show env.cells.lookup n = some c from hc]
      have e2 : closOf env ((n, k) :: r) acc = closOf env r ((n, c) :: acc) := by
        show (if (k == NameKind.free) = true then _ else _) = _
        rw [if_pos hk, show env.cells.lookup n = some c from hc]; rfl
      rw [e2, if_pos rfl, e1]
      exact forIn_clos env f hf r ((n, c) :: acc) hr
    | false =>
      have e2 : closOf env ((n, k) :: r) acc = closOf env r acc := by
        show (if (k == NameKind.free) = true then _ else _) = _
        rw [if_neg (by rw [hk]; exact Bool.false_ne_true)]
      rw [e2, if_neg Bool.false_ne_true]
      exact forIn_clos env f hf r acc hr
theorem closureFor_eq {scope : Scope} {env : Env} (h : ∀ y ∈ scope.names, y.2 = .free → ∃ c, env.cells.lookup y.1 = some c) : closureFor scope env = pure (closOf env scope.names []) := by
  simp only [closureFor]
  rw [forIn_clos env _ (fun n k cs => by cases hk : k == NameKind.free <;> simp [hk]) scope.names [] h]
  rfl
theorem closOf_look {env : Env} {x : Str} {c : Addr} : ∀ (names : List (Str × NameKind)) (acc : List (Str × Addr)), (closOf env names acc).lookup x = some c → acc.lookup x = some c ∨ ((x, NameKind.free) ∈ names ∧ c = (env.cells.lookup x).getD 0)
  | [], _, h => .inl h
  | (n, k) :: r, acc, h => by
    unfold closOf at h
    by_cases hk : (k == NameKind.free) = true
    · rw [if_pos hk] at h
      rcases closOf_look r _ h with z | ⟨z, e⟩
      · rw [List.lookup_cons] at z
        cases hx : x == n with
        | true =>
          rw [hx] at z
          have e1 : x = n := beq_iff_eq.mp hx
          have e2 : k = NameKind.free := beq_iff_eq.mp hk
          exact .inr ⟨by rw [e1, e2]; exact List.mem_cons_self, by rw [e1]; exact (Option.some.inj z).symm⟩
        | false => rw [hx] at z; exact .inl z
      · exact .inr ⟨List.mem_cons_of_mem _ z, e⟩
    · rw [if_neg hk] at h
      rcases closOf_look r _ h with z | ⟨z, e⟩
      · exact .inl z
      · exact .inr ⟨List.mem_cons_of_mem _ z, e⟩
theorem closOf_has {env : Env} {x : Str} : ∀ (names : List (Str × NameKind)) (acc : List (Str × Addr)), ((x, NameKind.free) ∈ names ∨ ∃ c, acc.lookup x = some c) → ∃ c, (closOf env names acc).lookup x = some c
  | [], _, h => h.elim (fun z => nomatch z) fun z => z
  | (n, k) :: r, acc, h => by
    unfold closOf
    by_cases hk : (k == NameKind.free) = true
    · rw [if_pos hk]
      refine closOf_has r _ ?_
      by_cases hx : x = n
      · exact .inr ⟨_, by rw [List.lookup_cons, beq_iff_eq.mpr hx]⟩
      · rcases h with z | ⟨c, z⟩
        · rcases List.mem_cons.mp z with e | z
          · exact absurd (congrArg Prod.fst e) hx
          · exact .inl z
        · exact .inr ⟨c, by rw [List.lookup_cons, beq_eq_false_iff_ne.mpr hx]; exact z⟩
    · rw [if_neg hk]
      refine closOf_has r _ ?_
      rcases h with z | z
      · rcases List.mem_cons.mp z with e | z
        · have e2 : NameKind.free = k := congrArg Prod.snd e
          exact absurd (beq_iff_eq.mpr e2.symm) hk
        · exact .inl z
      · exact .inr z
theorem cellsFrom_split : ∀ (names : List (Str × NameKind)) (n : Nat) (acc : List (Str × Addr)), cellsFrom n names acc = cellsFrom n names [] ++ acc
  | [], _, _ => rfl
  | (x, k) :: r, n, acc => by
    unfold cellsFrom
    split
    · rw [cellsFrom_split r (n + 1) ((x, n) :: acc), cellsFrom_split r (n + 1) [(x, n)], List.append_assoc]; rfl
    · exact cellsFrom_split r n acc
theorem cellsFrom_kind {x : Str} {c : Addr} : ∀ (names : List (Str × NameKind)) (n : Nat) (acc : List (Str × Addr)), (x, c) ∈ cellsFrom n names acc → (x, c) ∈ acc ∨ (x, NameKind.cell) ∈ names
  | [], _, _, h => .inl h
  | (y, k) :: r, n, acc, h => by
    unfold cellsFrom at h
    split at h
    · rename_i hk
      rcases cellsFrom_kind r _ _ h with z | z
      · rcases List.mem_cons.mp z with e | z
        · have e1 : x = y := congrArg Prod.fst e
          rw [e1, ← beq_iff_eq.mp hk]; exact .inr List.mem_cons_self
        · exact .inl z
      · exact .inr (List.mem_cons_of_mem _ z)
    · rcases cellsFrom_kind r _ _ h with z | z
      · exact .inl z
      · exact .inr (List.mem_cons_of_mem _ z)
theorem lookup_append {α : Type} {x : Str} : ∀ (l m : List (Str × α)), (l ++ m).lookup x = match l.lookup x with | some c => some c | none => m.lookup x
  | [], m => rfl
  | (y, c) :: l, m => by
    rw [List.cons_append, List.lookup_cons, List.lookup_cons]
    cases x == y with
    | true => rfl
    | false => exact lookup_append l m
theorem lookup_none_of {α : Type} {x : Str} : ∀ {l : List (Str × α)}, (∀ c, (x, c) ∉ l) → l.lookup x = none
  | [], _ => rfl
  | (y, c) :: l, h => by
    rw [List.lookup_cons]
    have hx : x ≠ y := fun e => h c (by rw [e]; exact List.mem_cons_self)
    rw [beq_eq_false_iff_ne.mpr hx]
    exact lookup_none_of fun c hc => h c (List.mem_cons_of_mem _ hc)
theorem relabelS_look {sc : Scope} {x : Str} : ∀ (names : List (Str × NameKind)), (names.map fun (n, k) => if (k == NameKind.free && sc.kind == .function && sc.names.lookup n == some .cell) then (n, NameKind.cell) else (n, k)).lookup x =
    (names.lookup x).map fun k => if (k == NameKind.free && sc.kind == .function && sc.names.lookup x == some .cell) then NameKind.cell else k
  | [] => rfl
  | (n, k) :: r => by
    have ih := relabelS_look (sc := sc) (x := x) r
    rw [List.map_cons]
    by_cases hc : (k == NameKind.free && sc.kind == .function && sc.names.lookup n == some .cell) = true
    · show List.lookup x ((if (k == NameKind.free && sc.kind == .function && sc.names.lookup n == some .cell) = true then (n, NameKind.cell) else (n, k)) :: _) = _
      rw [if_pos hc, List.lookup_cons, List.lookup_cons]
      cases hx : x == n with
      | true =>
        have e : x = n := beq_iff_eq.mp hx
        subst e
        show some NameKind.cell = some (if (k == NameKind.free && sc.kind == .function && sc.names.lookup x == some .cell) = true then NameKind.cell else k)
        rw [if_pos hc]
      | false => exact ih
    · show List.lookup x ((if (k == NameKind.free && sc.kind == .function && sc.names.lookup n == some .cell) = true then (n, NameKind.cell) else (n, k)) :: _) = _
      rw [if_neg hc, List.lookup_cons, List.lookup_cons]
      cases hx : x == n with
      | true =>
        have e : x = n := beq_iff_eq.mp hx
        subst e
        show some k = some (if (k == NameKind.free && sc.kind == .function && sc.names.lookup x == some .cell) = true then NameKind.cell else k)
        rw [if_neg hc]
      | false => exact ih
theorem newEnv_blk {M : Model} {A : Around} {E : Value → Shared → Prop} {s : Shared} {scope : Scope} {globals : Addr} {cl : List (Str × Addr)} {qual : Str} {env : Env} {Q : Env → Shared → Prop}
    (hQ : Q (newEnv scope s.heap.objs.size globals (cellsFrom (s.heap.objs.size + 1) scope.names cl) qual none .none (some env) builtinsNs) { s with heap := pushCells (s.heap.push { cls := .type "dict", data := .dict #[] }) scope.names }) :
    wpAny M A (newFunctionEnv scope globals cl [] qual none .none (some env)) Q E s := by
  simp only [newFunctionEnv, Option.isSome_some, if_true]
  refine wpAny_bind (wpAny_alloc ?_)
  refine wpAny_bind (wpAny_layCells _ (fun name kind cells => by cases hkc : kind == NameKind.cell <;> simp [hkc]) _ _ _ _ ?_)
  rw [show ({ s with heap := s.heap.push { cls := .type "dict", data := .dict #[] } } : Shared).heap.objs.size = s.heap.objs.size + 1 from Heap.size_push ..]
  simp only [List.forIn_nil]
  exact wpAny_bind (wpAny_pure (wpAny_pure hQ))
structure BlkS (scX scope : Scope) (N' own cp : List Str) (ixs : List Nat) : Prop where
  kind : scope.kind = .function
  nm : ∀ y ∈ scope.names, scope.names.lookup y.1 = some y.2
  free : ∀ y ∈ scope.names, y.2 = .free → scX.names.lookup y.1 = some .cell ∨ scX.names.lookup y.1 = some .free
  cap : ∀ x ∈ cp, scope.names.lookup x = some .free
  ix : ixs.map (fun i => N'[i]?) = cp.map some
  nd : (own ++ cp).Nodup
noncomputable def stB (own : List Str) (ix : List Nat) (σ : St) : St := own.map (fun _ => none) ++ ix.map fun i => (σ[i]?).getD none
end L2
namespace L2
open PySem PySem.Spec PyProof.Rows
section
variable {X : Cx} {pins : List (Addr × Obj)} {σ : St} {H : Hp} {s : Shared}
noncomputable abbrev hpB (s : Shared) (scope : Scope) : Heap := pushCells (s.heap.push { cls := .type "dict", data := .dict #[] }) scope.names
noncomputable abbrev clB (X : Cx) (s : Shared) (scope : Scope) : List (Str × Addr) := cellsFrom (s.heap.objs.size + 1) scope.names (closOf X.env scope.names [])
noncomputable abbrev biB (X : Cx) (pins : List (Addr × Obj)) (s : Shared) (H : Hp) (scope : Scope) (fp : List Addr) : BI := ⟨clB X s scope, s.heap.objs.size, s, H, fp, pins⟩
theorem hpB_keeps (s : Shared) (scope : Scope) (b : Addr) (o : Obj) (e : s.heap.get? b = some o) : (hpB s scope).get? b = some o := pushCells_keeps _ _ b o (Heap.get?_push_of_some _ e)
theorem ownB_ok (s : Shared) (scope : Scope) : CellsOk (hpB s scope) (s.heap.objs.size + 1) (cellsFrom (s.heap.objs.size + 1) scope.names []) := by
  have ok := cellsFrom_ok scope.names (s.heap.push { cls := .type "dict", data := .dict #[] }) (s.heap.objs.size + 1) [] ⟨fun _ _ hm => (nomatch hm), List.Pairwise.nil⟩ (by rw [Heap.size_push]; exact Nat.le_refl _)
  rw [Heap.size_push] at ok
  exact ok
theorem clB_look {scX scope : Scope} {N' own cap : List Str} {ix : List Nat} (S : BlkS scX scope N' own cap ix) (hX : X.env.scope = scX) (I : Inv X pins σ H s) {x : Str} {c : Addr} (h : (clB X s scope).lookup x = some c) :
    ((x, c) ∈ cellsFrom (s.heap.objs.size + 1) scope.names [] ∧ s.heap.objs.size + 1 ≤ c ∧ scope.names.lookup x = some .cell) ∨ (X.env.cells.lookup x = some c ∧ scope.names.lookup x = some .free) := by
  have h' : (cellsFrom (s.heap.objs.size + 1) scope.names (closOf X.env scope.names [])).lookup x = some c := h
  rw [cellsFrom_split, lookup_append] at h'
  cases e : (cellsFrom (s.heap.objs.size + 1) scope.names []).lookup x with
  | some c' =>
    rw [e] at h'
    cases h'
    have m := PySem.mem_of_lookup e
    refine .inl ⟨m, ((ownB_ok s scope).empty _ _ m).2, ?_⟩
    rcases cellsFrom_kind _ _ _ m with z | z
    · exact nomatch z
    · exact S.nm _ z
  | none =>
    rw [e] at h'
    rcases closOf_look _ _ h' with z | ⟨z, ec⟩
    · exact nomatch z
    · have hf := S.free _ z rfl
      rw [← hX] at hf
      obtain ⟨c', e'⟩ := I.ok.has x hf
      rw [e'] at ec
      exact .inr ⟨by rw [e', ec]; rfl, S.nm _ z⟩
theorem clB_free {scX scope : Scope} {N' own cap : List Str} {ix : List Nat} (S : BlkS scX scope N' own cap ix) (hX : X.env.scope = scX) (I : Inv X pins σ H s) {x : Str} (hx : scope.names.lookup x = some .free) :
    ∃ c, X.env.cells.lookup x = some c ∧ (clB X s scope).lookup x = some c := by
  have m := PySem.mem_of_lookup hx
  have hf := S.free _ m rfl
  rw [← hX] at hf
  obtain ⟨c, e⟩ := I.ok.has x hf
  refine ⟨c, e, ?_⟩
  have n1 : (cellsFrom (s.heap.objs.size + 1) scope.names []).lookup x = none := lookup_none_of fun c' hc' => by
    rcases cellsFrom_kind _ _ _ hc' with z | z
    · exact nomatch z
    · have := S.nm _ z
      rw [hx] at this
      cases this
  obtain ⟨c', e'⟩ := closOf_has (env := X.env) (x := x) scope.names [] (.inl m)
  show (cellsFrom (s.heap.objs.size + 1) scope.names (closOf X.env scope.names [])).lookup x = some c
  rw [cellsFrom_split, lookup_append, n1]
  show (closOf X.env scope.names []).lookup x = some c
  rcases closOf_look _ _ e' with z | ⟨_, z⟩
  · exact nomatch z
  · rw [e', z, e]; rfl
theorem kindB {scope sc : Scope} {x : Str} : (relabelS scope sc).names.lookup x = (scope.names.lookup x).map fun k => if (k == NameKind.free && sc.kind == .function && sc.names.lookup x == some .cell) then NameKind.cell else k := relabelS_look scope.names
theorem locB {scX scope : Scope} {own cap : List Str} {ix : List Nat} (S : BlkS scX scope X.N own cap ix) (hX : X.env.scope = scX) (I : Inv X pins σ H s) {h' : Heap} {m : Str → Option Value} (keep : ∀ x c v, X.env.cells.lookup x = some c → s.heap.IsCell c v → h'.IsCell c v)
    (i : Nat) (x : Str) (v : V) (e1 : (own ++ cap)[i]? = some x) (e2 : (stB own ix σ)[i]? = some (some v)) : ∃ u, RelV v u ∧ Look (envB scope (clB X s scope) s.heap.objs.size X.env) h' m x u := by
  have hi : ¬ i < own.length := fun hi => by
    unfold stB at e2
    rw [List.getElem?_append_left (by simpa using hi), List.getElem?_map] at e2
    cases q : own[i]? with
    | none => rw [q] at e2; cases e2
    | some y => rw [q] at e2; cases e2
  have e1' : cap[i - own.length]? = some x := by
    rw [List.getElem?_append_right (by omega)] at e1
    exact e1
  have e2' : ∃ k, ix[i - own.length]? = some k ∧ σ[k]? = some (some v) := by
    unfold stB at e2
    rw [List.getElem?_append_right (by simpa using Nat.le_of_not_lt hi), List.getElem?_map, List.length_map] at e2
    cases q : ix[i - own.length]? with
    | none => rw [q] at e2; cases e2
    | some k =>
      rw [q] at e2
      have e3 : (σ[k]?).getD none = some v := Option.some.inj e2
      cases q2 : σ[k]? with
      | none => rw [q2] at e3; cases e3
      | some z =>
        rw [q2] at e3
        exact ⟨k, rfl, by rw [q2, show z = some v from e3]⟩
  obtain ⟨k, hk, hv⟩ := e2'
  have hN : X.N[k]? = some x := by
    have z := congrArg (fun l => l[i - own.length]?) S.ix
    simp only [List.getElem?_map] at z
    rw [hk, e1'] at z
    exact Option.some.inj z
  have hx := S.cap x (List.mem_of_getElem? e1')
  have m' := PySem.mem_of_lookup hx
  have hf := S.free _ m' rfl
  rw [← hX] at hf
  obtain ⟨m0, _, hl⟩ := I.loc
  obtain ⟨u, r, l⟩ := hl k x v hN hv (hf.elim (fun z => .inr (.inl z)) fun z => .inr (.inr z))
  refine ⟨u, r, ?_⟩
  have l' : ∃ c, X.env.cells.lookup x = some c ∧ s.heap.IsCell c (some u) := by
    rcases l with ⟨z, _⟩ | ⟨_, c, z, q⟩
    · rcases hf with y | y
      · rw [show X.env.kindOf x = some .cell from y] at z; cases z
      · rw [show X.env.kindOf x = some .free from y] at z; cases z
    · exact ⟨c, z, q⟩
  obtain ⟨c, ec, hc⟩ := l'
  obtain ⟨c', ec', eb⟩ := clB_free S hX I hx
  rw [ec] at ec'
  cases ec'
  refine .inr ⟨?_, c, eb, keep x c _ ec hc⟩
  have kb : (envB scope (clB X s scope) s.heap.objs.size X.env).kindOf x = some (if (NameKind.free == NameKind.free && X.env.scope.kind == .function && X.env.scope.names.lookup x == some .cell) then NameKind.cell else NameKind.free) := by
    show (relabelS scope X.env.scope).names.lookup x = _
    rw [kindB, hx]; rfl
  rw [kb]
  by_cases q : (NameKind.free == NameKind.free && X.env.scope.kind == .function && X.env.scope.names.lookup x == some .cell) = true
  · rw [if_pos q]; exact .inl rfl
  · rw [if_neg q]; exact .inr rfl
theorem blk_inv {scX scope : Scope} {own cap : List Str} {ix : List Nat} {fp : List Addr} (S : BlkS scX scope X.N own cap ix) (hX : X.env.scope = scX) (I : Inv X pins σ H s) (hf : ∀ b ∈ fp, FpOk X pins H b) (ho : ∀ b ∈ fp, ∃ o, s.heap.get? b = some o) :
    Inv (blk X scope (own ++ cap) (biB X pins s H scope fp)) [] (stB own ix σ) H { s with heap := hpB s scope } := by
  have kp := hpB_keeps s scope
  have own1 := ownB_ok s scope
  have ltC : ∀ x c, X.env.cells.lookup x = some c → c < s.heap.objs.size := fun x c e => by
    obtain ⟨v, o, e', _⟩ := I.cell x c e
    exact Heap.lt_size e'
  have ltF : ∀ b ∈ fp, b < s.heap.objs.size := fun b hb => let ⟨_, e⟩ := ho b hb; Heap.lt_size e
  have nstk : ∀ b, b ≠ X.env.locals → b ∉ X.fs → b ∉ frs X.stack := fun b h1 h2 hb => by
    rcases List.mem_cons.mp (I.stkSub b hb) with e | e
    · exact h1 e
    · exact h2 e
  refine ⟨⟨I.ok.mod, S.kind, I.ok.glob, I.ok.blt, Nat.le_refl _, fun x y c h1 h2 => ?_, fun x hx => ?_, fun x c hx h => ?_, I.ok.hd, I.ok.frames, .inl rfl, fun b hb => ⟨?_, fun x c h => ?_⟩, I.bs, Nat.le_trans I.ok.bsz I.sz, fun b o e hb => ?_, fun b hb => ?_, I.stack, I.stkFree⟩,
    rfl, I.bare, Un.kept kp, ⟨fun _ => none, ?_, fun i x v e1 e2 _ => locB S hX I (fun x c v _ hc => hc.keeps kp) i x v e1 e2⟩, fun x c h => ?_, I.hok.fresh (Nat.le_refl _), fun x c h => ?_, fun p hp => ?_, I.hok.kept kp, ?_⟩
  · rcases clB_look S hX I h1 with ⟨m1, l1, _⟩ | ⟨m1, _⟩ <;> rcases clB_look S hX I h2 with ⟨m2, l2, _⟩ | ⟨m2, _⟩
    · exact name_of_addr own1.apart m1 m2
    · exact absurd (Nat.lt_of_lt_of_le (ltC _ _ m2) (Nat.le_of_succ_le l1)) (Nat.lt_irrefl _)
    · exact absurd (Nat.lt_of_lt_of_le (ltC _ _ m1) (Nat.le_of_succ_le l2)) (Nat.lt_irrefl _)
    · exact I.ok.inj x y c m1 m2
  · have hx' : (relabelS scope X.env.scope).names.lookup x = some .cell ∨ (relabelS scope X.env.scope).names.lookup x = some .free := hx
    rw [kindB] at hx'
    cases q : scope.names.lookup x with
    | none => rw [q] at hx'; rcases hx' with z | z <;> cases z
    | some k =>
      rw [q] at hx'
      cases k with
      | free => obtain ⟨c, _, e⟩ := clB_free S hX I q; exact ⟨c, e⟩
      | cell =>
        obtain ⟨c, e⟩ := cell_has (sc := scope) (n := s.heap.objs.size + 1) q
        refine ⟨c, ?_⟩
        show (cellsFrom (s.heap.objs.size + 1) scope.names (closOf X.env scope.names [])).lookup x = some c
        rw [cellsFrom_split, lookup_append, e]
      | _ => rcases hx' with z | z <;> cases z
  · have hx' : (scope.names.lookup x == some .cell) = true := hx
    rcases clB_look S hX I h with ⟨_, l1, _⟩ | ⟨_, z⟩
    · show s.heap.objs.size ≤ c; omega
    · rw [z] at hx'; exact absurd hx' (by decide)
  · exact Nat.ne_of_lt (ltF b hb)
  · rcases clB_look S hX I h with ⟨_, l1, _⟩ | ⟨z, _⟩
    · intro z; rw [z] at l1; exact absurd (Nat.lt_of_lt_of_le (ltF b hb) (Nat.le_of_succ_le l1)) (Nat.lt_irrefl _)
    · exact (hf b hb).2.2.2.2.1 x c z
  · rcases (hf b hb).2.2.2.1 with z | z
    · exact I.ok.noex b o e z
    · exact absurd (Nat.lt_of_lt_of_le (Nat.lt_of_lt_of_le (Heap.lt_size e) I.ok.bsz) z) (Nat.lt_irrefl _)
  · exact nstk b (hf b hb).2.1 (hf b hb).2.2.1
  · exact (Heap.Ns.new s.heap (.type "dict")).keeps (pushCells_keeps _ _)
  · rcases clB_look S hX I h with ⟨m1, _, _⟩ | ⟨z, _⟩
    · exact ⟨none, (own1.empty _ _ m1).1⟩
    · obtain ⟨v, q⟩ := I.cell x c z
      exact ⟨v, q.keeps kp⟩
  · rcases clB_look S hX I h with ⟨_, l1, _⟩ | ⟨z, _⟩
    · exact I.hok.fresh (by omega)
    · exact I.freeC x c z
  · have hp' : p ∈ X.pn ++ pins := by
      rcases List.mem_append.mp hp with z | z
      · exact z
      · exact nomatch z
    obtain ⟨e, n, ne, nf, d⟩ := I.pin p hp'
    exact ⟨kp _ _ e, n, Nat.ne_of_lt (Heap.lt_size e), nstk _ ne nf, d⟩
  · unfold stB
    show (own.map (fun _ => (none : Option V)) ++ ix.map fun i => (σ[i]?).getD none).length = (own ++ cap).length
    have z := congrArg List.length S.ix
    rw [List.length_map, List.length_map] at z
    rw [List.length_append, List.length_append, List.length_map, List.length_map, z]
theorem blk_reset {scX scope : Scope} {own cap : List Str} {ix : List Nat} {fp : List Addr} {pl : List (Addr × Obj)} {σ' : St} {H' : Hp} {s' : Shared} (S : BlkS scX scope X.N own cap ix) (hX : X.env.scope = scX) (I : Inv X pins σ H s) (hf : ∀ b ∈ fp, FpOk X pins H b)
    (J : Inv (blk X scope (own ++ cap) (biB X pins s H scope fp)) pl σ' H' s') : Inv (blk X scope (own ++ cap) (biB X pins s H scope fp)) pl (stB own ix σ) H' s' := by
  obtain ⟨m, hn, _⟩ := id J.loc
  refine ⟨J.ok, J.os, J.bare, J.base, ⟨m, hn, fun i x v e1 e2 _ => locB S hX I (fun x c v ec hc => ?_) i x v e1 e2⟩, J.cell, J.free, J.freeC, J.pin, J.hok, ?_⟩
  · obtain ⟨o, e, d⟩ := hc
    obtain ⟨sl, e'⟩ := J.base.any e (I.freeC x c ec) fun hb => (hf c hb).2.2.2.2.1 x c ec rfl
    exact ⟨_, e', d⟩
  · have z := congrArg List.length S.ix
    rw [List.length_map, List.length_map] at z
    show (stB own ix σ).length = (own ++ cap).length
    unfold stB
    rw [List.length_append, List.length_append, List.length_map, List.length_map, z]
theorem blk_out {scope : Scope} {own cap : List Str} {fp : List Addr} {σ' : St} {H' : Hp} {s' : Shared} {h' : Heap} (I : Inv X pins σ H s) (hf : ∀ b ∈ fp, FpOk X pins H b)
    (J : Inv (blk X scope (own ++ cap) (biB X pins s H scope fp)) [] σ' H' s') (hs : Heap.SameBut s.heap.objs.size s'.heap h') : Inv X pins σ H' { s' with heap := h' } := by
  have I1 : Inv X pins σ H' s' := I.call' (ch := fp) J.os J.base J.hok J.bare fun b hb => ⟨(hf b hb).2.2.2.1, (hf b hb).2.1, (hf b hb).2.2.2.2.1, (hf b hb).2.2.2.2.2⟩
  have n1 : s.heap.objs.size ≠ X.env.locals := Nat.ne_of_gt I.lt
  refine I1.turned (it := s.heap.objs.size) (t' := s'.toks) (fun b o hb e => (hs.2 b hb).trans e) J.free n1 (.inr I.sz) (fun x c e z => ?_) fun p hp z => ?_
  · obtain ⟨v, o, e', _⟩ := I.cell x c e
    exact absurd z (Nat.ne_of_lt (Heap.lt_size e'))
  · exact absurd z (Nat.ne_of_lt (Heap.lt_size (I.pin p hp).1))
end
noncomputable def PIf (X : Cx) (ifs : List Expr) (t : TT) : Prop :=
  ∀ (pins : List (Addr × Obj)) (s : Shared) (σ : St) (H : Hp) (Q : Bool → Hp → Prop), Inv X pins σ H s → t σ H Q →
    wpAny (model X.prog X.w) X.A (forIn ifs true fun c r => if r = true then do let ok ← isTrue c X.env (eval c X.env); pure (ForInStep.yield ok) else pure (ForInStep.yield r)) (TP X pins σ Q) X.xe s
noncomputable def tYes : TT := fun _ H Q => Q true H
theorem pif_nil {X : Cx} : PIf X [] tYes := fun _ _ _ H _ I h => wpAny_tests_nil ⟨H, I, h⟩
theorem pif_one {X : Cx} {c : Expr} {t : TT} (h : PT X c t) : PIf X [c] t := fun pins s σ H Q I hq => wpAny_tests_one (h pins s σ H Q I hq)
noncomputable def CTurn (J : It) (g : TG) (tt : TT) (act : St → Hp → (Hp → Prop) → Prop) (σ0 : St) (End : Hp → Prop) (W : Nat → Nat → Hp → Prop) : Prop :=
  ∀ i m H, W i m H → (J.stop i H ∧ End H) ∨ (J.go i H ∧ ∀ x H', J.yld i H x H' → g x σ0 H' fun σ2 H2 => tt σ2 H2 fun b H3 =>
    if b = true then act σ2 H3 fun H4 => ∃ m', m' < m ∧ W (i + 1) m' H4 else ∃ m', m' < m ∧ W (i + 1) m' H3)
noncomputable def aPut (D : Addr) (te : TE) : St → Hp → (Hp → Prop) → Prop := fun σ H R => te σ H fun y H4 => ∃ zs, H4 D = some (.lst zs) ∧ zs.length < sizeLine ∧ R (upd H4 D (.lst (zs ++ [y])))
noncomputable def tComp (own : List Str) (ix : List Nat) (wi : TI) (g : BI → TG) (tt : BI → TT) (te : BI → TE) : TE := fun σ H Q => wi σ H fun J H1 => ∀ D, H1 D = none →
  ∃ W : Nat → Nat → Hp → Prop, (∃ m, W 0 m (upd H1 D (.lst []))) ∧ ∀ b, CTurn J (g b) (tt b) (aPut D (te b)) (stB own ix σ) (fun H' => Q (.ref D) H') W
section
variable {X : Cx} {tg iter elt : Expr} {ifs : List Expr} {scope scX : Scope} {pos : Pos} {own cap : List Str} {ix : List Nat} {wi : TI} {g : BI → TG} {tt : BI → TT} {te : BI → TE}
theorem comp_loop {pins : List (Addr × Obj)} {σ : St} {H : Hp} {s : Shared} {J : It} {fp : List Addr} {it D : Addr} {tn : Nat → Heap → Prop} {End : Hp → Prop} {W : Nat → Nat → Hp → Prop} {m0 : Nat} {s4 : Shared}
    (S : BlkS scX scope X.N own cap ix) (hX : X.env.scope = scX) (I : Inv X pins σ H s) (hf : ∀ b ∈ fp, FpOk X pins H b) (hc : X.calm = true) (T : Turn X.prog X.w X.K tg J fp it tn)
    (hg : PG (blk X scope (own ++ cap) (biB X pins s H scope fp)) tg (g (biB X pins s H scope fp))) (ht : PIf (blk X scope (own ++ cap) (biB X pins s H scope fp)) ifs (tt (biB X pins s H scope fp)))
    (he : PE (blk X scope (own ++ cap) (biB X pins s H scope fp)) elt (te (biB X pins s H scope fp)))
    (hW : CTurn J (g (biB X pins s H scope fp)) (tt (biB X pins s H scope fp)) (aPut D (te (biB X pins s H scope fp))) (stB own ix σ) End W)
    (I4 : Inv (blk X scope (own ++ cap) (biB X pins s H scope fp)) [] (stB own ix σ) H s4) (st4 : tn 0 s4.heap) (w0 : W 0 m0 H) :
    codeAny (model X.prog X.w) X.A (.compLoop (.ListComp elt [⟨tg, iter, ifs, 0⟩] scope pos) 0 (.ref it) (.ref D) (envB scope (clB X s scope) s.heap.objs.size X.env))
      (fun r s' => ∃ H' σ', r = .ok .next ∧ Inv (blk X scope (own ++ cap) (biB X pins s H scope fp)) [] σ' H' s' ∧ End H') s4 := by
  have stat : ∀ {H' : Hp} {pl : List (Addr × Obj)}, (∀ b ∈ fp, H' b = none) → (∀ p ∈ pl, p.1 ∉ fp) → ∀ b ∈ fp, FpOk (blk X scope (own ++ cap) (biB X pins s H scope fp)) [] H' b := fun hn _ b hb => by
    refine ⟨hn b hb, (I4.ok.exf b hb).1, I4.ok.exfs b hb, .inl hb, (I4.ok.exf b hb).2, fun p hp => ?_⟩
    have hp' : p ∈ X.pn ++ pins := by
      rcases List.mem_append.mp hp with z | z
      · exact z
      · exact nomatch z
    exact (hf b hb).2.2.2.2.2 p hp'
  refine codeAny_loop rfl (fun n s' => ∃ i H', Inv (blk X scope (own ++ cap) (biB X pins s H scope fp)) [] (stB own ix σ) H' s' ∧ tn i s'.heap ∧ (∀ b ∈ fp, H' b = none) ∧ W i n H') ?_ m0 ⟨0, H, I4, st4, fun b hb => (hf b hb).1, w0⟩
  rintro n s3 ⟨i, H3, I3, st3, fr3, w3⟩
  show wpAny _ X.A ((compTurn (.ListComp elt [⟨tg, iter, ifs, 0⟩] scope pos) 0 (.ref it) (.ref D) (envB scope (clB X s scope) s.heap.objs.size X.env)).onRaise (fun x => do noteFrame x (envB scope (clB X s scope) s.heap.objs.size X.env); theTreesLotGoes x)) _ _ s3
  refine wpAny_noted ?_
  rw [compTurn_list]
  have st0 := stat (pl := []) fr3 (fun _ z => nomatch z)
  rcases hW i n H3 w3 with ⟨stop, qe⟩ | ⟨go, step⟩
  · refine wpAny_bind (wpAny_standAt (wpAny_bind (thn (T.done (blk X scope (own ++ cap) (biB X pins s H scope fp)) rfl rfl rfl hc i [] s3 _ H3 _ I3 st0 st3 stop) fun r s5 ⟨hr, I5⟩ => ?_)))
    subst hr
    exact wpAny_pure ⟨H3, _, rfl, I5, qe⟩
  · refine wpAny_bind (wpAny_standAt (wpAny_bind (thn (T.item (blk X scope (own ++ cap) (biB X pins s H scope fp)) rfl rfl rfl hc i [] s3 _ H3 _ I3 st0 st3 go) fun r s5 ⟨u, hr, h5⟩ => ?_)))
    subst hr
    refine wpAny_bind (thn h5 fun _ s6 ⟨x, H6, I6, r6, y6, st6, fr6⟩ => ?_)
    have I6' := I6.pinned (stat (pl := []) fr6 (fun _ z => nomatch z)) (T.obj _ _ st6)
    refine wpAny_bind (wpAny_mono (hg _ s6 _ H6 x u _ I6' r6 (step x H6 y6)) (fun _ s7 ⟨σ7, H7, I7, q7⟩ => ?_) fun _ _ f => f.elim)
    refine wpAny_bind (wpAny_mono (ht _ s7 σ7 H7 _ I7 q7) (fun ok s8 ⟨H8, I8, q8⟩ => ?_) fun _ _ f => f.elim)
    have again : ∀ {σ9 : St} {H9 : Hp} {s9 : Shared} {m' : Nat}, Inv (blk X scope (own ++ cap) (biB X pins s H scope fp)) ([] ++ pinsAt fp s6.heap) σ9 H9 s9 → m' < n → W (i + 1) m' H9 →
        ∃ m, m < n ∧ ∃ i H', Inv (blk X scope (own ++ cap) (biB X pins s H scope fp)) [] (stB own ix σ) H' s9 ∧ tn i s9.heap ∧ (∀ b ∈ fp, H' b = none) ∧ W i m H' := fun {σ9 H9 s9 m'} I9 hm w9 => by
      refine ⟨m', hm, i + 1, H9, blk_reset S hX I hf I9.unpinned, T.keep _ _ _ st6 fun b hb o e => (I9.pin (b, o) (List.mem_append_right _ (List.mem_append_right _ (mem_pinsAt hb e)))).1, fun b hb => ?_, w9⟩
      obtain ⟨o, e, d⟩ := T.obj _ _ st6 b hb
      exact (I9.pin (b, o) (List.mem_append_right _ (List.mem_append_right _ (mem_pinsAt hb e)))).2.1
    cases ok with
    | false =>
      obtain ⟨m', hm, w9⟩ := q8
      exact wpAny_pure ⟨rfl, again I8 hm w9⟩
    | true =>
      refine wpAny_bind (wpAny_bind (wpAny_mono (he _ s8 σ7 H8 _ I8 q8) (fun y s9 ⟨v, H9, I9, r9, zs, hD, hz, m', hm, w9⟩ => ?_) fun _ _ f => f.elim))
      refine wpAny_bind (wpAny_mono (mt_append (X := blk X scope (own ++ cap) (biB X pins s H scope fp)) _ s9 σ7 H9 (.ref D) [v] (.ref D) [y] (fun _ H' => ∃ m', m' < n ∧ W (i + 1) m' H') I9 rfl (.cons r9 .nil) ⟨D, zs, v, rfl, rfl, hD, hz, m', hm, w9⟩) (fun _ s10 ⟨_, H10, I10, _, m'', hm', w10⟩ => ?_) fun _ _ f => f.elim)
      exact wpAny_pure (wpAny_pure ⟨rfl, again I10 hm' w10⟩)
theorem comp_enter {pins : List (Addr × Obj)} {σ : St} {H : Hp} {s : Shared} {Q : VK} {use : Option (Value → Sem Unit)} {Q' : Value → Shared → Prop} (hc : X.calm = true) (hX : X.env.scope = scX) (S : BlkS scX scope X.N own cap ix) (hi : PI X tg iter wi)
    (hg : ∀ b, PG (blk X scope (own ++ cap) b) tg (g b)) (ht : ∀ b, PIf (blk X scope (own ++ cap) b) ifs (tt b)) (he : ∀ b, PE (blk X scope (own ++ cap) b) elt (te b))
    (hs : ∀ x, foldedSetIterable iter X.env x = pure x) (I : Inv X pins σ H s) (h : tComp own ix wi g tt te σ H Q)
    (out : ∀ (D C : Addr) (H' : Hp) (s' : Shared), Q (.ref D) H' → (∃ m, s'.heap.Ns C m) → FpOk X pins H' C → (∀ h', Heap.SameBut C s'.heap h' → Inv X pins σ H' { s' with heap := h' }) →
      compPost (model X.prog X.w) X.A X.xe use Q' (.ref D) C (.ok .next) s') :
    wpAny (model X.prog X.w) X.A (comprehension (.ListComp elt [⟨tg, iter, ifs, 0⟩] scope pos) scope X.env (firstIterPos [⟨tg, iter, ifs, 0⟩] pos) (newList []) false (eval iter X.env) use) Q' X.xe s := by
  have hclos := closureFor_eq (scope := scope) (env := X.env) fun y hy hk => by
    have hf := S.free y hy hk
    rw [← hX] at hf
    exact I.ok.has y.1 hf
  refine wpAny_comprehension_free (use := use) rfl hs hclos S.kind (fun y hy hk => by rw [S.nm y hy, hk]) (thn (hi pins s σ H _ I h) fun v s1 h1 => thn h1 fun itv s2 h2 => ?_)
  obtain ⟨it, fp, tn, J, H2, e, I2, T, st2, f2, hR⟩ := h2
  subst e
  refine wpAny_newObj_type ?_
  obtain ⟨W, ⟨m0, w0⟩, hW⟩ := hR s2.heap.objs.size I2.fresh
  have I3 : Inv X pins σ (upd H2 s2.heap.objs.size (.lst [])) { s2 with heap := s2.heap.push { cls := .type "list", data := .seq ([] : List Value).toArray } } := I2.lnew (t' := s2.toks) (its := []) .nil (Nat.zero_le _)
  have ltF : ∀ b ∈ fp, b < s2.heap.objs.size := fun b hb => let ⟨_, e, _⟩ := T.obj _ _ st2 b hb; Heap.lt_size e
  have f3 : ∀ b ∈ fp, FpOk X pins (upd H2 s2.heap.objs.size (.lst [])) b := fun b hb => ⟨by rw [upd_ne (Nat.ne_of_lt (ltF b hb))]; exact (f2 b hb).1, (f2 b hb).2⟩
  have st3 : tn 0 (s2.heap.push { cls := .type "list", data := .seq ([] : List Value).toArray }) := T.keep _ _ _ st2 fun b hb o e => Heap.get?_push_of_some _ e
  generalize hs3 : ({ s2 with heap := s2.heap.push { cls := .type "list", data := .seq ([] : List Value).toArray } } : Shared) = s3 at I3
  have st3' : tn 0 s3.heap := by rw [← hs3]; exact st3
  have ob3 : ∀ b ∈ fp, ∃ o, s3.heap.get? b = some o := fun b hb => let ⟨o, e, _⟩ := T.obj _ _ st3' b hb; ⟨o, e⟩
  have I4 := blk_inv S hX I3 f3 ob3
  have st4 : tn 0 (hpB s3 scope) := T.keep _ _ _ st3' fun b _ o e => hpB_keeps s3 scope b o e
  refine newEnv_blk ?_
  have loop := comp_loop (iter := iter) (pos := pos) S hX I3 f3 hc T (hg _) (ht _) (he _) (hW _) I4 st4 w0
  have fin : codeAny (model X.prog X.w) X.A (.compLoop (.ListComp elt [⟨tg, iter, ifs, 0⟩] scope pos) 0 (.ref it) (.ref s2.heap.objs.size) (envB scope (clB X s3 scope) s3.heap.objs.size X.env))
      (compPost (model X.prog X.w) X.A X.xe use Q' (.ref s2.heap.objs.size) s3.heap.objs.size) { s3 with heap := hpB s3 scope } := codeAny_mono loop fun r s' ⟨H', σ', hr, J', q⟩ => by
    subst hr
    exact out _ _ H' s' q (let ⟨m, hn, _⟩ := J'.loc; ⟨m, hn⟩) (I3.fpOk (Nat.le_refl _) J'.free) fun h' hh => blk_out I3 f3 J' hh
  exact codeAny_compStart_list fin (T.self _ 0 _ _ _ st4 fin)
theorem pe_comp (hc : X.calm = true) (hX : X.env.scope = scX) (S : BlkS scX scope X.N own cap ix) (hi : PI X tg iter wi) (hg : ∀ b, PG (blk X scope (own ++ cap) b) tg (g b)) (ht : ∀ b, PIf (blk X scope (own ++ cap) b) ifs (tt b))
    (he : ∀ b, PE (blk X scope (own ++ cap) b) elt (te b)) (hs : ∀ x, foldedSetIterable iter X.env x = pure x := by intro _; rfl) :
    PE X (.ListComp elt [⟨tg, iter, ifs, 0⟩] scope pos) (tComp own ix wi g tt te) := by
  intro pins s σ H Q I h
  rw [eval_ListComp]
  refine comp_enter (use := none) hc hX S hi hg ht he hs I h fun D C H' s' q hn _ hI => ?_
  obtain ⟨m, hn⟩ := hn
  exact ⟨m, hn, fun h' hh => ⟨.ref D, H', hI h' hh, rfl, q⟩⟩
end
end L2
namespace L2
open PySem PySem.Spec PyProof.Rows
noncomputable def Its (x : Str) : It := ⟨fun i _ => i < x.cps.size, fun i H v H' => H' = H ∧ ∃ c, x.cps[i]? = some c ∧ v = .str ⟨#[c]⟩, fun i _ => x.cps.size ≤ i⟩
theorem turn_strA {P : Program} {w : World} {K : PySem.W.Frag} {tg : Expr} (it : Addr) (x : Str) (t : Tok) : Turn P w K tg (Its x) [it] it (fun i h => h.IsStrIter it "str_ascii_iterator" x t i) where
  mem := by simp
  obj := fun i h st b hb => by
    have e : b = it := by simpa using hb
    subst e
    obtain ⟨o, e, c, d⟩ := st
    exact ⟨o, e, fun v z => by rw [d] at z; cases z⟩
  keep := fun i h h' st k => let ⟨o, e, r⟩ := st; ⟨o, k it (by simp) o e, r⟩
  item := by
    intro X hP hw hK hc i pins s σ H E I hf st hg
    subst hP hw hK
    have hg' : i < x.cps.size := hg
    obtain ⟨f0, f1, f2, f3, f4, f5⟩ := hf it (by simp)
    refine wpAny_pyNext_ascii_item st (c := x.cps[i]) (by simp [hg']) fun h' st' sb => ?_
    have I1 : Inv X pins σ H { s with heap := h', toks := s.toks + 1 } := I.turned (fun b o hb e => (sb.2 b hb).trans e) f0 f1 f3 f4 f5
    obtain ⟨o, e, c, d⟩ := id st'
    exact ⟨_, rfl, go_of (s := { s with heap := h', toks := s.toks + 1 }) e c d (by decide) ⟨.str ⟨#[x.cps[i]]⟩, H, I1, ⟨_, rfl⟩, ⟨rfl, _, by simp [hg'], rfl⟩, st', fun b hb => (hf b hb).1⟩⟩
  done := by
    intro X hP hw hK hc i pins s σ H E I hf st hg
    subst hP hw hK
    have hg' : x.cps.size ≤ i := hg
    obtain ⟨f0, f1, f2, f3, f4, f5⟩ := hf it (by simp)
    exact wpAny_pyNext_ascii_end (I.ok.hd hc) st (by simp [hg']) fun h' eb => ⟨rfl, I.turned (t' := s.toks) (fun b o hb e => eb b o hb e) f0 f1 f3 f4 f5⟩
  self := fun _ _ _ _ _ st h => wpAny_pyIter_striter_ascii st h
theorem turn_strW {P : Program} {w : World} {K : PySem.W.Frag} {tg : Expr} (it : Addr) (x : Str) (t : Tok) : Turn P w K tg (Its x) [it] it (fun i h => h.IsStrIter it "str_iterator" x t i) where
  mem := by simp
  obj := fun i h st b hb => by
    have e : b = it := by simpa using hb
    subst e
    obtain ⟨o, e, c, d⟩ := st
    exact ⟨o, e, fun v z => by rw [d] at z; cases z⟩
  keep := fun i h h' st k => let ⟨o, e, r⟩ := st; ⟨o, k it (by simp) o e, r⟩
  item := by
    intro X hP hw hK hc i pins s σ H E I hf st hg
    subst hP hw hK
    have hg' : i < x.cps.size := hg
    obtain ⟨f0, f1, f2, f3, f4, f5⟩ := hf it (by simp)
    refine wpAny_pyNext_wide_item st (c := x.cps[i]) (by simp [hg']) fun h' st' sb => ?_
    have I1 : Inv X pins σ H { s with heap := h', toks := s.toks + 1 } := I.turned (fun b o hb e => (sb.2 b hb).trans e) f0 f1 f3 f4 f5
    obtain ⟨o, e, c, d⟩ := id st'
    exact ⟨_, rfl, go_of (s := { s with heap := h', toks := s.toks + 1 }) e c d (by decide) ⟨.str ⟨#[x.cps[i]]⟩, H, I1, ⟨_, rfl⟩, ⟨rfl, _, by simp [hg'], rfl⟩, st', fun b hb => (hf b hb).1⟩⟩
  done := by
    intro X hP hw hK hc i pins s σ H E I hf st hg
    subst hP hw hK
    have hg' : x.cps.size ≤ i := hg
    obtain ⟨f0, f1, f2, f3, f4, f5⟩ := hf it (by simp)
    exact wpAny_pyNext_wide_end (I.ok.hd hc) st (by simp [hg']) fun h' eb => ⟨rfl, I.turned (t' := s.toks) (fun b o hb e => eb b o hb e) f0 f1 f3 f4 f5⟩
  self := fun _ _ _ _ _ st h => wpAny_pyIter_striter_wide st h
noncomputable def iStr (tl : TE) : TI := fun σ H R => tl σ H fun x H1 => ∃ z, x = .str z ∧ R (Its z) H1
theorem pi_str {X : Cx} {tg l : Expr} {tl : TE} (hl : PE X l tl) : PI X tg l (iStr tl) := by
  intro pins s σ H R I h
  refine thn (hl pins s σ H _ I h) fun v s1 ⟨x, H1, I1, r1, q1⟩ => ?_
  obtain ⟨z, e, q⟩ := q1
  subst e
  obtain ⟨t, rfl⟩ := r1
  have fp : ∀ b ∈ [s1.heap.objs.size], FpOk X pins H1 b := fun b hb => by
    have e : b = s1.heap.objs.size := by simpa using hb
    subst e
    exact I1.fpOk (Nat.le_refl _) (I1.hok.fresh (Nat.le_refl _))
  cases ha : z.cps.all (· < 128)
  · exact wpAny_pyIter_wide ha ⟨s1.heap.objs.size, [s1.heap.objs.size], _, _, H1, rfl, I1.kept (t' := s1.toks) fun b o e => Heap.get?_push_of_some _ e, turn_strW _ z t, ⟨_, Heap.get?_push_size _ rfl, rfl, rfl⟩, fp, q⟩
  · exact wpAny_pyIter_ascii ha ⟨s1.heap.objs.size, [s1.heap.objs.size], _, _, H1, rfl, I1.kept (t' := s1.toks) fun b o e => Heap.get?_push_of_some _ e, turn_strA _ z t, ⟨_, Heap.get?_push_size _ rfl, rfl, rfl⟩, fp, q⟩
section
variable {X : Cx}
theorem op_le_str : OpR X (compareOp .LtE) (fun x y H Q => ∃ i j, x = .str i ∧ y = .str j ∧ Q (.bl (!decide (j.cps.toList < i.cps.toList))) H) := by
  intro pins s σ H x y v u Q I rx ry h
  obtain ⟨i, j, rfl, rfl, q⟩ := h
  obtain ⟨t, rfl⟩ := rx
  obtain ⟨t', rfl⟩ := ry
  exact PySem.P.le_str ⟨.bl _, H, I, rfl, q⟩
theorem parts_of {v : Value} {o : Option Int} (p : IsPart v o) : ∃ l : Option (Int × Tok), v = partValue l ∧ l.map (·.1) = o := by
  cases p with
  | none => exact ⟨none, rfl, rfl⟩
  | int i t => exact ⟨some (i, t), rfl, rfl⟩
theorem sl_str : SlR X (fun x lo hi H Q => ∃ z, x = .str z ∧ z.length ≤ sizeLine ∧ Q (.str (Txt.slice z lo hi)) H) := by
  intro pins s σ H x v vl vu lo hi sl Q I rx hs pl pu h
  obtain ⟨z, rfl, hz, q⟩ := h
  obtain ⟨t, rfl⟩ := rx
  obtain ⟨l, e1, f1⟩ := parts_of pl
  obtain ⟨u, e2, f2⟩ := parts_of pu
  subst e1 e2 f1 f2
  refine ⟨"str", _, F.slot_str_getitem.lookup, typeIs_str _ _ _, wpAny_getItem_str_slice (l := l) (u := u) (st := none) hs rfl ?_⟩
  exact post_val_or_str ⟨Nat.le_trans (Txt.slice_le z _ _) hz, fun t' k => ⟨.str (Txt.slice z _ _), H, I.tok k, ⟨t', rfl⟩, q⟩⟩
theorem strs_of : ∀ {ys : List Str} {us : List Value}, Vals (ys.map V.str) us → StrsAre us ys := by
  intro ys
  induction ys with
  | nil => intro us r; rw [List.map_nil] at r; cases r; exact .nil
  | cons y ys ih =>
    intro us r
    rw [List.map_cons] at r
    cases r with
    | cons r1 r2 =>
      obtain ⟨t, e⟩ := r1
      subst e
      exact .cons y t (ih r2)
theorem bools_of : ∀ {bs : List Bool} {us : List Value}, Vals (bs.map V.bl) us → LSm.BoolsAre us bs := by
  intro bs
  induction bs with
  | nil => intro us r; rw [List.map_nil] at r; cases r; exact .nil
  | cons b bs ih =>
    intro us r
    rw [List.map_cons] at r
    cases r with
    | cons r1 r2 =>
      have e : _ = Value.bool b := r1
      subst e
      exact .cons b (ih r2)
theorem call_all (hc : X.calm = true) : CallR X (.builtin "all") (fun xs H Q => ∃ (p : Addr) (bs : List Bool), xs = [.ref p] ∧ SqL X.K H p (bs.map V.bl) ∧ Q (.bl (bs.all id)) H) := by
  intro pins s σ H xs us Q I r h
  obtain ⟨p, bs, rfl, hq, q⟩ := h
  obtain ⟨u, rfl, ru⟩ := vals1 r
  cases ru
  obtain ⟨its, rv, pl, _⟩ := I.list hq
  have hb := bools_of rv
  have hl := pl.isList
  have hlt : p < s.heap.objs.size := by obtain ⟨_, e, _⟩ := hl; exact Heap.lt_size e
  refine call_all_walk (wpAny_pyIter_list hl ?_)
  refine ⟨s.heap.objs.size, [s.heap.objs.size, p], [s.heap.objs.size], its.toArray.size, _, _, fun i => (bs[i]?).getD true, rfl, Walks.list (A := X.A.in1) (I.ok.hd hc) _ p (Nat.ne_of_lt hlt) its.toArray,
    ⟨⟨_, Heap.get?_push_size _ rfl, rfl, rfl⟩, hl.push _⟩, fun i v s' Q' E' hP hQ => ?_, fun h' tk hk => ?_⟩
  · obtain ⟨b, e, rfl⟩ := hb.get i v (by simpa using hP)
    simp only [e, Option.getD_some] at hQ
    exact wpAny_truthy_bool hQ
  · have e : ((List.range its.toArray.size).all fun i => (bs[i]?).getD true) = bs.all id := by
      rw [List.size_toArray, hb.length]; exact LSm.range_all bs
    rw [e]
    exact ⟨.bl _, H, I.kept (LSm.kept_iter hk), rfl, q⟩
theorem call_isi : CallR X (.builtin "isinstance") (fun xs H Q => ∃ x n t b, xs = [x, .ty n] ∧ TyOf X.K H x t ∧ PySem.W.kitOne X.K t (.type n) = some b ∧ Q (.bl b) H) := by
  intro pins s σ H xs us Q I r h
  obtain ⟨x, n, t, b, rfl, ty, e, q⟩ := h
  obtain ⟨u, w', rfl, rx, ry⟩ := vals2 r
  have ry' : w' = Value.type n := ry
  subst ry'
  exact isinst_ok I rx ty e fun tk => ⟨.bl b, H, I.tok tk, rfl, q⟩
mutual
inductive Dp (K : PySem.W.Frag) (H : Hp) : V → PyData → Prop
  | non : Dp K H .non .none
  | bl (b : Bool) : Dp K H (.bl b) (.bool b)
  | int (i : Int) : Dp K H (.int i) (.int i)
  | str (x : Str) : Dp K H (.str x) (.str x)
  | lst {a : Addr} {xs : List V} {ds : List PyData} : SqL K H a xs → DpA K H xs ds → Dp K H (.ref a) (.list ds)
  | tup {a : Addr} {xs : List V} {ds : List PyData} : SqT K H a xs → DpA K H xs ds → Dp K H (.ref a) (.tuple ds)
inductive DpA (K : PySem.W.Frag) (H : Hp) : List V → List PyData → Prop
  | nil : DpA K H [] []
  | cons {x : V} {xs : List V} {d : PyData} {ds : List PyData} : Dp K H x d → DpA K H xs ds → DpA K H (x :: xs) (d :: ds)
end
mutual
theorem Dp.reads {pins : List (Addr × Obj)} {σ : St} {H : Hp} {s : Shared} (I : Inv X pins σ H s) : ∀ {x : V} {d : PyData} {u : Value}, Dp X.K H x d → RelV x u → ∃ as, Reads s.heap u d as
  | _, _, _, .non, r => by cases (show _ = Value.none from r); exact ⟨_, .none⟩
  | _, _, _, .bl b, r => by cases (show _ = Value.bool b from r); exact ⟨_, .bool b⟩
  | _, _, _, .int i, r => by obtain ⟨t, rfl⟩ := (show ∃ t, _ = Value.int i t from r); exact ⟨_, .int i t⟩
  | _, _, _, .str x, r => by obtain ⟨t, rfl⟩ := (show ∃ t, _ = Value.str x t from r); exact ⟨_, .str x t⟩
  | _, _, _, .lst (a := a) hq h, r => by
    cases (show _ = Value.ref a from r)
    obtain ⟨its, rv, pl, _⟩ := I.list hq
    obtain ⟨as, q⟩ := DpA.reads I h rv
    obtain ⟨o, ho, hc, n, hd⟩ := pl.isList
    exact ⟨_, .list ho hc hd (by simpa using q)⟩
  | _, _, _, .tup (a := a) hq h, r => by
    cases (show _ = Value.ref a from r)
    obtain ⟨its, rv, pl, _⟩ := I.tuple hq
    obtain ⟨as, q⟩ := DpA.reads I h rv
    obtain ⟨o, ho, hc, n, hd⟩ := pl
    exact ⟨_, .tuple ho hc hd (by simpa using q)⟩
theorem DpA.reads {pins : List (Addr × Obj)} {σ : St} {H : Hp} {s : Shared} (I : Inv X pins σ H s) : ∀ {xs : List V} {ds : List PyData} {us : List Value}, DpA X.K H xs ds → Vals xs us → ∃ as, ReadsAll s.heap us ds as
  | _, _, _, .nil, r => by cases r; exact ⟨_, .nil⟩
  | _, _, _, .cons h1 h2, r => by
    cases r with
    | cons r1 r2 =>
      obtain ⟨as, q1⟩ := Dp.reads I h1 r1
      obtain ⟨bs, q2⟩ := DpA.reads I h2 r2
      exact ⟨_, .cons q1 q2⟩
end
noncomputable def rEqD (K : PySem.W.Frag) : R2 := fun x y H Q => ∃ d e, Dp K H x d ∧ Dp K H y e ∧ SeqAt.shaped d = true ∧ SeqAt.shaped e = true ∧ Q (.bl (PyData.eqv d e)) H
noncomputable def rNeD (K : PySem.W.Frag) : R2 := fun x y H Q => ∃ d e, Dp K H x d ∧ Dp K H y e ∧ SeqAt.shaped d = true ∧ SeqAt.shaped e = true ∧ Q (.bl (!PyData.eqv d e)) H
theorem op_eqD (hu : X.A.units + 64 < cLine) : OpR X (compareOp .Eq) (rEqD X.K) := by
  intro pins s σ H x y v u Q I rx ry h
  obtain ⟨d, e, hd, he, sd, se, q⟩ := h
  obtain ⟨as, ra⟩ := hd.reads I rx
  obtain ⟨bs, rb⟩ := he.reads I ry
  exact eq_dataH ra rb sd se hu ⟨.bl _, H, I, rfl, q⟩
theorem op_neD (hu : X.A.units + 64 < cLine) : OpR X (compareOp .NotEq) (rNeD X.K) := by
  intro pins s σ H x y v u Q I rx ry h
  obtain ⟨d, e, hd, he, sd, se, q⟩ := h
  obtain ⟨as, ra⟩ := hd.reads I rx
  obtain ⟨bs, rb⟩ := he.reads I ry
  exact ne_dataH ra rb sd se hu ⟨.bl _, H, I, rfl, q⟩
end
end L2
namespace L2
open PySem PySem.Spec PyProof.Rows
section
variable {X : Cx} {a b c : Expr} {ta tb tc : TE} {pos : Pos}
noncomputable def tV (i : Nat) : TE := fun σ H Q => match σ[i]? with
  | some (some v) => Q v H
  | _ => False
theorem pV (i : Nat) {x : Str} {pos : Pos} (hN : X.N[i]? = some x := by rfl) (hv : Vis X.env.scope x := by first | exact Or.inl rfl | exact Or.inr (Or.inl rfl) | exact Or.inr (Or.inr rfl)) (hd : (x == ("__debug__" : Str)) = false := by decide)
    (hcd : (x == ("__classdict__" : Str)) = false := by decide) : PE X (.Name x pos) (tV i) := by
  intro pins s σ H Q I h
  refine pe_var hN hv hd hcd pins s σ H Q I ?_
  unfold tV at h
  cases e : σ[i]? with
  | none => rw [e] at h; exact h.elim
  | some o =>
    rw [e] at h
    cases o with
    | none => exact h.elim
    | some v => exact ⟨v, e, h⟩
noncomputable def fI (g : Int → Int → V) : R2 := fun x y H Q => match x, y with
  | .int i, .int j => Q (g i j) H
  | _, _ => False
noncomputable def fIc (C : Int → Int → Prop) (g : Int → Int → V) : R2 := fun x y H Q => match x, y with
  | .int i, .int j => C i j ∧ Q (g i j) H
  | _, _ => False
theorem OpR.fI {f : Value → Value → Sem Value} {g : Int → Int → V} (h : OpR X f (rI0 g)) : OpR X f (fI g) := by
  intro pins s σ H x y v u Q I rx ry q
  refine h pins s σ H x y v u Q I rx ry ?_
  cases x <;> cases y <;> first | exact ⟨_, _, rfl, rfl, q⟩ | exact (show False from q).elim
theorem OpR.fIc {f : Value → Value → Sem Value} {C : Int → Int → Prop} {g : Int → Int → V} (h : OpR X f (rI C g)) : OpR X f (fIc C g) := by
  intro pins s σ H x y v u Q I rx ry q
  refine h pins s σ H x y v u Q I rx ry ?_
  cases x <;> cases y <;> first | exact ⟨_, _, rfl, rfl, q.1, q.2⟩ | exact (show False from q).elim
theorem oAdd : OpR X (binaryOp .Add) (fI fun i j => .int (i + j)) := op_add.fI
theorem oSub : OpR X (binaryOp .Sub) (fI fun i j => .int (i - j)) := op_sub.fI
theorem oMul : OpR X (binaryOp .Mult) (fIc CMul fun i j => .int (i * j)) := op_mul.fIc
theorem oMod : OpR X (binaryOp .Mod) (fIc (fun _ j => 0 < j) fun i j => .int (i % j)) := op_mod.fIc
noncomputable def CDivL (_ j : Int) : Prop := 0 < j ∧ j < 4611686018427387904
theorem op_fdivL : OpR X (binaryOp .FloorDiv) (rI CDivL fun i j => .int (i / j)) := opI fun i j _ _ _ _ _ hc q => by
  have h1 : (0 : Int) < j := hc.1
  have h2 : j < 4611686018427387904 := hc.2
  refine floordiv_int (by omega) (by rw [Int.fdiv_eq_ediv_of_nonneg i (by omega)]; exact q) (.inl (PyProof.noPylong_of_log2 ?_))
  have h3 : j.natAbs ≠ 0 := by omega
  have h4 : j.natAbs < 2 ^ 62 := by omega
  have := (Nat.log2_lt h3).mpr h4
  omega
theorem oDiv : OpR X (binaryOp .FloorDiv) (fIc CDivL fun i j => .int (i / j)) := op_fdivL.fIc
theorem oPow : OpR X (binaryOp .Pow) (fIc CPow fun i j => .int (i ^ j.toNat)) := op_pow.fIc
theorem oLt : OpR X (compareOp .Lt) (fI fun i j => .bl (decide (i < j))) := op_lt.fI
theorem oLe : OpR X (compareOp .LtE) (fI fun i j => .bl (decide (i ≤ j))) := op_le.fI
theorem oGt : OpR X (compareOp .Gt) (fI fun i j => .bl (decide (j < i))) := op_gt.fI
theorem op_eqI : OpR X (compareOp .Eq) (rI0 fun i j => .bl (decide (i = j))) := opB0 fun _ _ _ _ _ _ _ q => eq_int (by rw [Bool.beq_eq_decide_eq]; exact q)
theorem oEq : OpR X (compareOp .Eq) (fI fun i j => .bl (decide (i = j))) := op_eqI.fI
theorem uNeg : UnR X (unaryOp .USub) (fun x H Q => match x with | .int i => Q (.int (-i)) H | _ => False) := by
  intro pins s σ H x v Q I rx h
  cases x with
  | int i => obtain ⟨t, rfl⟩ := rx; exact neg_int ⟨.int (-i), H, I.tok _, ⟨_, rfl⟩, h⟩
  | _ => exact (show False from h).elim
noncomputable def fS (g : Str → Str → V) : R2 := fun x y H Q => match x, y with
  | .str i, .str j => Q (g i j) H
  | _, _ => False
theorem oLeS : OpR X (compareOp .LtE) (fS fun i j => .bl (!decide (j.cps.toList < i.cps.toList))) := by
  intro pins s σ H x y v u Q I rx ry q
  refine op_le_str pins s σ H x y v u Q I rx ry ?_
  cases x <;> cases y <;> first | exact ⟨_, _, rfl, rfl, q⟩ | exact (show False from q).elim
noncomputable def fCat : R2 := fun x y H Q => match x, y with
  | .str i, .str j => i.length + j.length ≤ sizeLine ∧ Q (.str (i ++ j)) H
  | _, _ => False
theorem oCat : OpR X (binaryOp .Add) fCat := by
  intro pins s σ H x y v u Q I rx ry q
  refine op_add_str pins s σ H x y v u Q I rx ry ?_
  cases x <;> cases y <;> first | exact ⟨_, _, rfl, rfl, q.1, q.2⟩ | exact (show False from q).elim
noncomputable def bF (Q : Bool → Hp → Prop) : VK := fun x H => match x with
  | .bl k => Q k H
  | _ => False
noncomputable def tF (t : TE) : TT := fun σ H Q => t σ H (bF Q)
theorem tFq {Q : Bool → Hp → Prop} {x : V} {H : Hp} (h : bF Q x H) : ∃ k, x = .bl k ∧ Q k H := by
  cases x with
  | bl k => exact ⟨k, rfl, h⟩
  | _ => exact (show False from h).elim
theorem ptC {op : CmpOp} {r : R2} (ho : OpR X (compareOp op) r) (ha : PE X a ta) (hb : PE X b tb) (hm : behindInMarks op b = false) : PT X (.Compare a [op] [b] pos) (tF (tOp r ta tb)) := by
  intro pins s σ H Q I h
  refine wpAny_isTrue_Compare1 (thn (ha pins s σ H _ I h) fun v s1 ⟨x, H1, I1, r1, q1⟩ => thn (hb pins s1 σ H1 _ I1 q1) fun u s2 ⟨y, H2, I2, r2, q2⟩ =>
    thn (ho pins s2 σ H2 x y v u _ I2 r1 r2 q2) fun c s3 ⟨z, H3, I3, r3, q3⟩ => ?_) hm
  obtain ⟨k, e, q⟩ := tFq q3
  subst e
  cases r3
  exact wpAny_truthy_bool ⟨H3, I3, q⟩
theorem ptV {e : Expr} {t : TE} (h : PE X e t) (he : ∀ whole, isTrue e X.env whole = (do let v ← whole; standAt e.pos; holding [v] (truthy v)) := by intro _; rfl) : PT X e (tF t) := by
  intro pins s σ H Q I hw
  refine isTrue_plain (thn (h pins s σ H _ I hw) fun v s1 ⟨x, H1, I1, r1, q1⟩ => ?_) (he _)
  obtain ⟨d, rfl, q⟩ := tFq q1
  cases r1
  exact wpAny_truthy_bool ⟨H1, I1, q⟩
noncomputable def tChF (r r' : R2) (ta tb tc : TE) : TE := fun σ H Q => ta σ H fun x H1 => tb σ H1 fun y H2 => r x y H2 (bF fun k H3 => if k = true then tc σ H3 fun w' H4 => r' y w' H4 Q else Q (.bl false) H3)
theorem peCh {op op' : CmpOp} {r r' : R2} (ho : OpR X (compareOp op) r) (ho' : OpR X (compareOp op') r') (ha : PE X a ta) (hb : PE X b tb) (hc : PE X c tc)
    (hm : lastMarks [op, op'] [b, c] = false := by with_unfolding_all rfl) : PE X (.Compare a [op, op'] [b, c] pos) (tChF r r' ta tb tc) := by
  intro pins s σ H Q I h
  refine Compare_chain (thn (ha pins s σ H _ I h) fun v s1 ⟨x, H1, I1, r1, q1⟩ => chain_link (thn (hb pins s1 σ H1 _ I1 q1) fun u s2 ⟨y, H2, I2, r2, q2⟩ =>
    thn (ho pins s2 σ H2 x y v u _ I2 r1 r2 q2) fun d s3 ⟨z, H3, I3, r3, q3⟩ => ?_)) hm
  obtain ⟨k, e, q3⟩ := tFq q3
  subst e
  cases r3
  refine wpAny_truthy_bool ?_
  cases k with
  | false => exact ite_ff ⟨.bl false, H3, I3, rfl, q3⟩
  | true => exact ite_tt (chain_last (thn (hc pins s3 σ H3 _ I3 q3) fun w' s4 ⟨z', H4, I4, r4, q4⟩ => ho' pins s4 σ H4 y z' u w' Q I4 r2 r4 q4))
theorem ptCh {op op' : CmpOp} {r r' : R2} (ho : OpR X (compareOp op) r) (ho' : OpR X (compareOp op') r') (ha : PE X a ta) (hb : PE X b tb) (hc : PE X c tc)
    (hm : lastMarks [op, op'] [b, c] = false := by with_unfolding_all rfl) : PT X (.Compare a [op, op'] [b, c] pos) (tF (tChF r r' ta tb tc)) := by
  intro pins s σ H Q I h
  refine isTrue_chain (thn (ha pins s σ H _ I h) fun v s1 ⟨x, H1, I1, r1, q1⟩ => test_link (thn (hb pins s1 σ H1 _ I1 q1) fun u s2 ⟨y, H2, I2, r2, q2⟩ =>
    thn (ho pins s2 σ H2 x y v u _ I2 r1 r2 q2) fun d s3 ⟨z, H3, I3, r3, q3⟩ => ?_)) hm
  obtain ⟨k, e, q3⟩ := tFq q3
  subst e
  cases r3
  refine wpAny_truthy_bool ?_
  cases k with
  | false => exact ite_ff ⟨H3, I3, q3⟩
  | true =>
    refine ite_tt (test_last (thn (hc pins s3 σ H3 _ I3 q3) fun w' s4 ⟨z', H4, I4, r4, q4⟩ => thn (ho' pins s4 σ H4 y z' u w' _ I4 r2 r4 q4) fun d' s5 ⟨z2, H5, I5, r5, q5⟩ => ?_))
    obtain ⟨k2, e2, q5⟩ := tFq q5
    subst e2
    cases r5
    exact wpAny_truthy_bool ⟨H5, I5, q5⟩
variable {rest : List Expr}
noncomputable def tAndF (ta tb : TE) : TE := fun σ H Q => ta σ H (bF fun c H1 => if c = true then tb σ H1 Q else Q (.bl false) H1)
theorem peAnd (ha : PE X a ta) (hb : PE X (.BoolOp .And (b :: rest) pos) tb) : PE X (.BoolOp .And (a :: b :: rest) pos) (tAndF ta tb) := by
  intro pins s σ H Q I h
  refine BoolOp_and (thn (ha pins s σ H _ I h) fun v s1 ⟨x, H1, I1, r1, q1⟩ => ?_)
  obtain ⟨c, rfl, q1⟩ := tFq q1
  cases r1
  refine wpAny_truthy_bool ?_
  cases c with
  | true => exact hb pins s1 σ H1 Q I1 q1
  | false => exact ⟨.bl false, H1, I1, rfl, q1⟩
end
end L2
namespace L2
open PySem PySem.Spec PyProof.Rows
noncomputable def Nx (n i : Nat) (Pv : Nat → Hp → Prop) (H : Hp) : Prop := ∃ m', m' < n - i ∧ (m' = n - (i + 1) ∧ i + 1 ≤ n ∧ Pv (i + 1) H)
theorem nx {n i : Nat} {Pv : Nat → Hp → Prop} {H : Hp} (hi : i < n) (h : Pv (i + 1) H) : Nx n i Pv H := ⟨n - (i + 1), by omega, rfl, hi, h⟩
section
variable {g : BI → TG} {tt : BI → TT} {te : BI → TE} {σ0 : St} {D : Addr} {End : Hp → Prop} {H1 : Hp}
theorem comp_by {J : It} (n : Nat) (Pv : Nat → Hp → Prop) (h0 : Pv 0 (upd H1 D (.lst []))) (stop : ∀ H, Pv n H → J.stop n H ∧ End H)
    (turn : ∀ i H, i < n → Pv i H → J.go i H ∧ ∀ x H', J.yld i H x H' → ∀ b, g b x σ0 H' fun σ2 H2 => tt b σ2 H2 fun c H3 => if c = true then aPut D (te b) σ2 H3 (Nx n i Pv) else Nx n i Pv H3) :
    ∃ W : Nat → Nat → Hp → Prop, (∃ m, W 0 m (upd H1 D (.lst []))) ∧ ∀ b, CTurn J (g b) (tt b) (aPut D (te b)) σ0 End W := by
  refine ⟨fun i m H => m = n - i ∧ i ≤ n ∧ Pv i H, ⟨n, rfl, Nat.zero_le _, h0⟩, fun b i m H ⟨hm, hi, p⟩ => ?_⟩
  subst hm
  by_cases hlt : i < n
  · exact .inr ⟨(turn i H hlt p).1, fun x H' y => (turn i H hlt p).2 x H' y b⟩
  · have e : i = n := by omega
    subst e
    exact .inl (stop H p)
theorem comp_str {z : Str} (Pv : Nat → Hp → Prop) (h0 : Pv 0 (upd H1 D (.lst []))) (stop : ∀ H, Pv z.cps.size H → End H)
    (turn : ∀ i c H, z.cps[i]? = some c → i < z.cps.size → Pv i H → ∀ b, g b (.str ⟨#[c]⟩) σ0 H fun σ2 H2 => tt b σ2 H2 fun c H3 => if c = true then aPut D (te b) σ2 H3 (Nx z.cps.size i Pv) else Nx z.cps.size i Pv H3) :
    ∃ W : Nat → Nat → Hp → Prop, (∃ m, W 0 m (upd H1 D (.lst []))) ∧ ∀ b, CTurn (Its z) (g b) (tt b) (aPut D (te b)) σ0 End W :=
  comp_by z.cps.size Pv h0 (fun H p => ⟨Nat.le_refl _, stop H p⟩) fun i H hi p => ⟨hi, fun x H' ⟨e, c, hc, hx⟩ b => by subst e hx; exact turn i c _ hc hi p b⟩
theorem comp_list {K : PySem.W.Frag} {a : Addr} {xs : List V} (Pv : Nat → Hp → Prop) (h0 : Pv 0 (upd H1 D (.lst []))) (hl : ∀ i H, i ≤ xs.length → Pv i H → SqL K H a xs) (stop : ∀ H, Pv xs.length H → End H)
    (turn : ∀ i x H, xs[i]? = some x → i < xs.length → Pv i H → ∀ b, g b x σ0 H fun σ2 H2 => tt b σ2 H2 fun c H3 => if c = true then aPut D (te b) σ2 H3 (Nx xs.length i Pv) else Nx xs.length i Pv H3) :
    ∃ W : Nat → Nat → Hp → Prop, (∃ m, W 0 m (upd H1 D (.lst []))) ∧ ∀ b, CTurn (Itl K a) (g b) (tt b) (aPut D (te b)) σ0 End W :=
  comp_by xs.length Pv h0 (fun H p => ⟨⟨xs, hl _ H (Nat.le_refl _) p, Nat.le_refl _⟩, stop H p⟩) fun i H hi p =>
    ⟨⟨xs, xs[i], hl i H (Nat.le_of_lt hi) p, by simp [hi]⟩, fun x H' ⟨e, y⟩ b => by subst e; exact turn i x _ (y xs (hl i _ (Nat.le_of_lt hi) p)) hi p b⟩
theorem comp_tup {K : PySem.W.Frag} {a : Addr} {xs : List V} (Pv : Nat → Hp → Prop) (h0 : Pv 0 (upd H1 D (.lst []))) (hl : ∀ i H, i ≤ xs.length → Pv i H → SqT K H a xs) (stop : ∀ H, Pv xs.length H → End H)
    (turn : ∀ i x H, xs[i]? = some x → i < xs.length → Pv i H → ∀ b, g b x σ0 H fun σ2 H2 => tt b σ2 H2 fun c H3 => if c = true then aPut D (te b) σ2 H3 (Nx xs.length i Pv) else Nx xs.length i Pv H3) :
    ∃ W : Nat → Nat → Hp → Prop, (∃ m, W 0 m (upd H1 D (.lst []))) ∧ ∀ b, CTurn (Itt K a) (g b) (tt b) (aPut D (te b)) σ0 End W :=
  comp_by xs.length Pv h0 (fun H p => ⟨⟨xs, hl _ H (Nat.le_refl _) p, Nat.le_refl _⟩, stop H p⟩) fun i H hi p =>
    ⟨⟨xs, xs[i], hl i H (Nat.le_of_lt hi) p, by simp [hi]⟩, fun x H' ⟨e, y⟩ b => by subst e; exact turn i x _ (y xs (hl i _ (Nat.le_of_lt hi) p)) hi p b⟩
theorem comp_range {lo : Int} {n : Nat} (Pv : Nat → Hp → Prop) (h0 : Pv 0 (upd H1 D (.lst []))) (stop : ∀ H, Pv n H → End H)
    (turn : ∀ i H, i < n → Pv i H → ∀ b, g b (.int (lo + i)) σ0 H fun σ2 H2 => tt b σ2 H2 fun c H3 => if c = true then aPut D (te b) σ2 H3 (Nx n i Pv) else Nx n i Pv H3) :
    ∃ W : Nat → Nat → Hp → Prop, (∃ m, W 0 m (upd H1 D (.lst []))) ∧ ∀ b, CTurn (Itr lo n) (g b) (tt b) (aPut D (te b)) σ0 End W :=
  comp_by n Pv h0 (fun H p => ⟨Nat.le_refl _, stop H p⟩) fun i H hi p => ⟨hi, fun x H' ⟨e, hx⟩ b => by subst e hx; exact turn i _ hi p b⟩
end
structure Grow (H1 H : Hp) (D : Addr) (ys : List V) : Prop where
  at' : H D = some (.lst ys)
  same : Same H1 H
theorem Grow.start {H1 : Hp} {D : Addr} (h : H1 D = none) : Grow H1 (upd H1 D (.lst [])) D [] := ⟨upd_same, fun b o e => by rw [upd_ne (ne_of_none e h)]; exact e⟩
theorem Grow.put {H1 H : Hp} {D : Addr} {ys : List V} (h : H1 D = none) (G : Grow H1 H D ys) (y : V) : Grow H1 (upd H D (.lst (ys ++ [y]))) D (ys ++ [y]) := ⟨upd_same, fun b o e => by rw [upd_ne (ne_of_none e h)]; exact G.same b o e⟩
theorem Same.upd {H H1 : Hp} {p : Addr} {o : HO} (s : Same H H1) (h : H1 p = none) : Same H (upd H1 p o) := fun b u e => by rw [upd_ne (ne_of_none (s b u e) h)]; exact s b u e
theorem Same.tup {K : PySem.W.Frag} {H H' : Hp} {a : Addr} {xs : List V} (e : Same H H') (h : SqT K H a xs) : SqT K H' a xs := by
  rcases h with (h | ⟨o, h⟩) | h
  · exact .inl (.inl (e _ _ h))
  · exact .inl (.inr ⟨o, e _ _ h⟩)
  · exact .inr h
noncomputable def sub8 (T n : String) : Bool := T == n || (T == "bool" && n == "int")
theorem kit8 {K : PySem.W.Frag} {H : Hp} {x : V} {T : String} (h : TyOf K H x (.type T)) : PySem.W.kitOne K (.type T) (.type "int") = some (sub8 T "int") ∧ PySem.W.kitOne K (.type T) (.type "bool") = some (sub8 T "bool") ∧ PySem.W.kitOne K (.type T) (.type "str") = some (sub8 T "str") ∧ PySem.W.kitOne K (.type T) (.type "tuple") = some (sub8 T "tuple") := by
  cases h <;> exact ⟨rfl, rfl, rfl, rfl⟩
end L2
namespace L2
open PySem PySem.Spec PyProof.Rows
section
variable {X : Cx} {a b : Expr} {tA tB' : TT} {rest : List Expr} {pos : Pos}
theorem ptOr (ha : PT X a tA) (hb : PW X (.BoolOp .Or (b :: rest) pos) tB') : PT X (.BoolOp .Or (a :: b :: rest) pos) (tOr tA tB') := (pw_or ha hb).pt
theorem ptAnd (ha : PT X a tA) (hb : PW X (.BoolOp .And (b :: rest) pos) tB') : PT X (.BoolOp .And (a :: b :: rest) pos) (tAnd tA tB') := (pw_and ha hb).pt
end
theorem lt1 {a b : Nat} : ([a] < [b]) ↔ a < b := by simp [List.cons_lt_cons_iff]
end L2
namespace L2
open PySem PySem.Spec PyProof.Rows
theorem take_map {α β : Type} {f : α → β} {l : List α} {i : Nat} {c : α} (h : l[i]? = some c) : (l.take (i + 1)).map f = (l.take i).map f ++ [f c] := by
  rw [List.take_add_one, h, List.map_append]; rfl
theorem take_all {α β : Type} {f : α → β} {l : List α} {n : Nat} (h : l.length ≤ n) : (l.take n).map f = l.map f := by rw [List.take_of_length_le h]
theorem len_take {α β : Type} {f : α → β} {l : List α} {i m : Nat} (h : i < m) (hm : m ≤ sizeLine) : ((l.take i).map f).length < sizeLine := by
  rw [List.length_map, List.length_take]; omega
theorem cps_get {z : Str} {i c : Nat} (h : z.cps[i]? = some c) : z.cps.toList[i]? = some c := by simpa using h
end L2
namespace L2
open PySem PySem.Spec PyProof.Rows
noncomputable def SameB (p : Addr) (H H' : Hp) : Prop := ∀ b o, b ≠ p → H b = some o → H' b = some o
theorem SameB.of {p : Addr} {H H' : Hp} (s : Same H H') : SameB p H H' := fun b o _ e => s b o e
theorem SameB.trans {p : Addr} {H H1 H2 : Hp} (a : SameB p H H1) (b : SameB p H1 H2) : SameB p H H2 := fun c o n e => b c o n (a c o n e)
theorem SameB.upd {p : Addr} {H H1 : Hp} {o : HO} (a : SameB p H H1) : SameB p H (upd H1 p o) := fun c u n e => by rw [upd_ne n]; exact a c u n e
theorem SameB.new {p q : Addr} {H H1 : Hp} {o : HO} (a : SameB p H H1) (h : H1 q = none) : SameB p H (L2.upd H1 q o) := fun c u n e => by rw [upd_ne (ne_of_none (a c u n e) h)]; exact a c u n e
structure IxA (K : PySem.W.Frag) (x y : V) (H : Hp) (Q : VK) : Prop where
  h : rIxL K x y H Q
theorem iIx {X : Cx} : IxR X (IxA X.K) := fun a b pins s σ H x y v u Q I rx ry h hs => ix_list a b pins s σ H x y v u Q I rx ry h.h hs
theorem ixAt {K : PySem.W.Frag} {H : Hp} {p : Addr} {xs : List V} {i : Int} {v : V} {Q : VK} (h : H p = some (.lst xs)) (e : atI xs i = some v) (q : Q v H) : IxA K (.ref p) (.int i) H Q := ⟨p, xs, i, v, rfl, rfl, SqL.of h, e, q⟩
theorem ixAtS {K : PySem.W.Frag} {H : Hp} {p : Addr} {xs : List V} {i : Int} {v : V} {Q : VK} (h : SqL K H p xs) (e : atI xs i = some v) (q : Q v H) : IxA K (.ref p) (.int i) H Q := ⟨p, xs, i, v, rfl, rfl, h, e, q⟩
structure IxT (K : PySem.W.Frag) (x y : V) (H : Hp) (Q : VK) : Prop where
  h : rIxT K x y H Q
theorem iIxT {X : Cx} : IxR X (IxT X.K) := fun a b pins s σ H x y v u Q I rx ry h hs => ix_tup a b pins s σ H x y v u Q I rx ry h.h hs
theorem ixTup {K : PySem.W.Frag} {H : Hp} {p : Addr} {xs : List V} {i : Int} {v : V} {Q : VK} (h : SqT K H p xs) (e : atI xs i = some v) (q : Q v H) : IxT K (.ref p) (.int i) H Q := ⟨p, xs, i, v, rfl, rfl, h, e, q⟩
structure IxS (x y : V) (H : Hp) (Q : VK) : Prop where
  h : rIxS x y H Q
theorem iIxS {X : Cx} : IxR X IxS := fun a b pins s σ H x y v u Q I rx ry h hs => ix_str a b pins s σ H x y v u Q I rx ry h.h hs
theorem ixStr {H : Hp} {z : Str} {i : Int} {c : Nat} {Q : VK} (hz : z.length ≤ sizeLine) (e : atI z.cps.toList i = some c) (q : Q (.str ⟨#[c]⟩) H) : IxS (.str z) (.int i) H Q := ⟨z, i, c, rfl, rfl, hz, e, q⟩
structure SetA (o i v : V) (H : Hp) (Q : Hp → Prop) : Prop where
  h : rSetL o i v H Q
theorem iSet {X : Cx} : PSet X SetA := fun pins s σ H o i v ov iv u Q I ro ri rv h => set_list pins s σ H o i v ov iv u Q I ro ri rv h.h
theorem setAt {H : Hp} {p : Addr} {xs : List V} {i : Int} {j : Nat} {v : V} {Q : Hp → Prop} (h : H p = some (.lst xs)) (e : ixN xs.length i = some j) (q : Q (upd H p (.lst (xs.set j v)))) : SetA (.ref p) (.int i) v H Q := ⟨p, xs, i, j, rfl, rfl, h, e, q⟩
end L2
namespace L2
open PySem PySem.Spec PyProof.Rows
noncomputable def cutS (z : Str) (lo hi : Option Int) : Str := ⟨((z.cps.toList.drop (HT.sIx z.length 0 lo)).take (HT.sIx z.length z.length hi - HT.sIx z.length 0 lo)).toArray⟩
theorem ssi_eq (lo hi : Option Int) (n : Nat) : Builtin.Str.strSliceIndices lo hi 1 n = (List.range (HT.sIx n n hi - HT.sIx n 0 lo)).map (HT.sIx n 0 lo + ·) := by
  have a : ∀ (v : Option Int) (d : Nat), d ≤ n → (match v with | none => (d : Int) | some i => (let i := if i < 0 then i + (n : Int) else i; max 0 (min i (n : Int)))) = ((HT.sIx n d v : Nat) : Int) := fun v d hd => by
    cases v with
    | none => rfl
    | some i =>
      show max 0 (min (if i < 0 then i + (n : Int) else i) (n : Int)) = ((if i < 0 then (i + (n : Int)).toNat else min i.toNat n : Nat) : Int)
      by_cases h : i < 0
      · rw [if_pos h, if_pos h]; omega
      · rw [if_neg h, if_neg h]; omega
  rw [← sliceRange_one]
  unfold Builtin.Str.strSliceIndices
  have h1 := a lo 0 (Nat.zero_le _)
  have h2 := a hi n (Nat.le_refl _)
  simp only [show (1 : Int) > 0 by decide, if_true] at h1 h2 ⊢
  rw [← h1, ← h2]
  rfl
theorem slice_eq (z : Str) (lo hi : Option Int) : Txt.slice z lo hi = cutS z lo hi := by
  unfold Txt.slice cutS
  rw [ssi_eq, pick_run]
  split
  · rename_i h
    have e : HT.sIx z.length z.length hi - HT.sIx z.length 0 lo = z.length := by simpa using h
    have b : HT.sIx z.length z.length hi ≤ z.length := by
      unfold HT.sIx
      cases hi with
      | none => exact Nat.le_refl _
      | some v => simp only; split <;> omega
    by_cases h0 : z.length = 0
    · have e0 : z.cps.toList = [] := by
        apply List.eq_nil_of_length_eq_zero
        simpa [Str.length] using h0
      cases z with
      | mk cps =>
        have e1 : cps = #[] := by simpa using e0
        subst e1
        simp
    · have e1 : HT.sIx z.length 0 lo = 0 := by omega
      rw [e1, Nat.sub_zero, show HT.sIx z.length z.length hi = z.length by omega, List.drop_zero, List.take_of_length_le (by simp [Str.length])]
  · rfl
theorem slice_to (z : Str) (k : Nat) : Txt.slice z none (some (k : Int)) = ⟨(z.cps.toList.take k).toArray⟩ := by
  rw [slice_eq]
  unfold cutS
  rw [HT.sIx_none, HT.sIx_nat, List.drop_zero, Nat.sub_zero]
  congr 2
  rw [List.take_eq_take_iff]
  simp [Str.length]
  try omega
theorem slice_mid (z : Str) (i k : Nat) : Txt.slice z (some (i : Int)) (some (k : Int)) = ⟨((z.cps.toList.take k).drop i).toArray⟩ := by
  rw [slice_eq]
  unfold cutS
  rw [HT.sIx_nat, HT.sIx_nat, List.drop_take]
  have el : z.cps.toList.length = z.length := by simp [Str.length]
  congr 1
  by_cases h : i ≤ z.length
  · rw [Nat.min_eq_left h]
    congr 1
    rw [List.take_eq_take_iff, List.length_drop, el]
    omega
  · rw [List.drop_of_length_le (show z.cps.toList.length ≤ min i z.length by omega), List.drop_of_length_le (show z.cps.toList.length ≤ i by omega)]
    simp
end L2
namespace L2
open PySem PySem.Spec PyProof.Rows
noncomputable def tPartF (t : TE) : TO := fun σ H Q => t σ H fun x H1 => match x with
  | .int i => Q (some i) H1
  | _ => False
theorem poI {X : Cx} {e : Expr} {te : TE} (h : PE X e te) : PO X (some e) (tPartF te) := by
  intro pins s σ H Q I hw
  rw [evalPart_some]
  refine thn (h pins s σ H _ I hw) fun u s1 ⟨x, H1, I1, r1, q1⟩ => ?_
  cases x with
  | int i => obtain ⟨t, rfl⟩ := r1; exact ⟨some i, H1, I1, .int i t, q1⟩
  | _ => exact (show False from q1).elim
structure SlS (x : V) (lo hi : Option Int) (H : Hp) (Q : VK) : Prop where
  h : ∃ z, x = .str z ∧ z.length ≤ sizeLine ∧ Q (.str (Txt.slice z lo hi)) H
theorem iSlS {X : Cx} : SlR X SlS := fun pins s σ H x v vl vu lo hi sl Q I rx hs pl pu h => sl_str pins s σ H x v vl vu lo hi sl Q I rx hs pl pu h.h
theorem slStr {z : Str} {lo hi : Option Int} {H : Hp} {Q : VK} (hz : z.length ≤ sizeLine) (q : Q (.str (Txt.slice z lo hi)) H) : SlS (.str z) lo hi H Q := ⟨z, rfl, hz, q⟩
theorem app_list (a b : Str) : (a ++ b).cps.toList = a.cps.toList ++ b.cps.toList := by
  show (a.cps ++ b.cps).toList = _
  simp
theorem len_list (a : Str) : a.cps.toList.length = a.length := by simp [Str.length]
end L2
namespace L2
open PySem PySem.Spec PyProof.Rows
section
variable {X : Cx} {elt kx vx iter tg : Expr} {te tk tv : TE} {D : Addr} {wi : TI} {g : TG} {tt : TT} {act : TAct} {ifs : List Expr} {scope : Scope} {pos : Pos}
end
end L2
namespace L2
open PySem PySem.Spec PyProof.Rows
end L2
namespace L2
open PySem PySem.Spec PyProof.Rows
section
variable {X : Cx} {e tg iter : Expr} {ifs : List Expr} {gs : List Comprehension} {scope scX : Scope} {pos : Pos} {own cap : List Str} {ix : List Nat} {wi : TI} {g : BI → TG} {tt : BI → TT} {act : BI → Addr → TAct} {tail : Addr → Env → Sem Unit} {newAcc : Sem Value} {ob : Obj} {o0 : HO} {p : Pos}
end
section
variable {X : Cx} {elt kx vx tg iter tg1 iter1 : Expr} {ifs ifs1 : List Expr} {scope : Scope} {pos : Pos}
end
section
variable {X : Cx} {elt kx vx tg iter tg1 iter1 : Expr} {ifs ifs1 : List Expr} {scope scX : Scope} {pos : Pos} {own cap : List Str} {ix : List Nat} {wi : TI} {g g1 : BI → TG} {tt tt1 : BI → TT} {te tk tv : BI → TE} {wi1 : BI → TI}
end
end L2
namespace L2
open PySem PySem.Spec PyProof.Rows
section
variable {X : Cx} {pins : List (Addr × Obj)} {σ : St} {H : Hp} {s : Shared} {h' : Heap}
end
end L2
namespace L2
open PySem PySem.Spec PyProof.Rows
section
variable {prog : Program} {w : World} {A : Around} {E : Value → Shared → Prop} {s : Shared}
end
end L2
namespace L2
open PySem PySem.Spec PyProof.Rows
section
variable {X : Cx}
theorem call_sorted : CallR X (.builtin "sorted") (fun xs H Q => ∃ p ss, xs = [.ref p] ∧ SqL X.K H p (ss.map V.str) ∧ ss.length < 64 ∧ ∀ l ss', H l = none → ss'.Perm ss → sortedS ss' = true → Q (.ref l) (upd H l (.lst (ss'.map V.str)))) := by
  intro pins s σ H xs us Q I r h
  obtain ⟨p, ss, rfl, hq, h64, q⟩ := h
  obtain ⟨u, rfl, ru⟩ := vals1 r
  cases ru
  obtain ⟨its, rv, pl, _⟩ := I.list hq
  have hS := strs_of rv
  have hlen : its.length = ss.length := by rw [← rv.length, List.length_map]
  refine sorted_strs pl.isList hS (by omega) fun out ss' h1 h2 h3 => ?_
  obtain ⟨e, he⟩ := sortedAll_at s.heap its out
  have hl : ss'.length = ss.length := h2.length_eq
  have sl0 : sizeLine = 16777216 := sizeLine_eq
  refine ⟨.ref (s.heap.objs.size + 1), _, I.laid (t' := s.toks) (o := .lst (ss'.map V.str)) (fun _ _ => sortedAll_old) (Nat.le_succ _) ⟨by rw [List.length_map]; omega, out.toList, e, ?_, he⟩, rfl, q _ _ (I.hok.fresh (Nat.le_succ _)) h2 h3⟩
  clear he h2 h3 hl
  generalize out.toList = l at h1
  induction h1 with
  | nil => exact .nil
  | cons x t _ ih => exact .cons ⟨t, rfl⟩ ih
theorem fold_ones (c : Nat) : ∀ (n : Nat) (a : Array Nat), (List.replicate n (#[c] : Array Nat)).foldl (· ++ ·) a = a ++ (List.replicate n c).toArray
  | 0, a => by simp
  | n + 1, a => by
    rw [List.replicate_succ, List.foldl_cons, fold_ones c n, List.replicate_succ]
    apply Array.ext'
    simp
theorem op_mulS : OpR X (binaryOp .Mult) (fun x y H Q => ∃ (c : Nat) (n : Int), x = .str ⟨#[c]⟩ ∧ y = .int n ∧ 1 ≤ n ∧ n ≤ 1000 ∧ Q (.str ⟨(List.replicate n.toNat c).toArray⟩) H) := by
  intro pins s σ H x y v u Q I rx ry h
  obtain ⟨c, n, rfl, rfl, h1, h2, q⟩ := h
  obtain ⟨t, rfl⟩ := rx
  obtain ⟨t', rfl⟩ := ry
  have n1 : ¬ n < 1 := by omega
  have l1 : (⟨#[c]⟩ : Str).length = 1 := rfl
  refine PySem.P.mul_str (by rw [decide_eq_false (by omega), decide_eq_false (by omega)]; rfl) (fun _ _ z => ?_) (fun _ _ => ?_) ?_
  · rw [l1] at z
    have : (1 : Int) ≤ (2 ^ 63 - 1) / n := by
      rw [Int.le_ediv_iff_mul_le (by omega)]
      omega
    have z' : ((1 : Nat) : Int) > (2 ^ 63 - 1) / n := z
    omega
  · rw [l1, Nat.one_mul]
    show decide (n.toNat > sizeLine) = false
    rw [decide_eq_false_iff_not, sizeLine_eq]
    omega
  · rw [if_neg n1]
    by_cases e1 : n = 1
    · subst e1
      rw [if_pos (by simp)]
      exact ⟨.str ⟨#[c]⟩, H, I, ⟨t, rfl⟩, q⟩
    · rw [if_neg (by
        intro z
        rw [Bool.or_eq_true] at z
        rcases z with z | z
        · exact e1 (beq_iff_eq.mp z)
        · rw [l1] at z; exact absurd z (by decide)), fold_ones]
      have e2 : (#[] : Array Nat) ++ (List.replicate n.toNat c).toArray = (List.replicate n.toNat c).toArray := by simp
      rw [e2]
      refine ⟨?_, ?_⟩
      · show (List.replicate n.toNat c).toArray.size ≤ sizeLine
        rw [List.size_toArray, List.length_replicate, sizeLine_eq]; omega
      · exact ⟨.str _, H, I.tok _, ⟨_, rfl⟩, q⟩
end
end L2
namespace L2
open PySem PySem.Spec PyProof.Rows
section
variable {prog : Program} {w : World} {A : Around} {E : Value → Shared → Prop} {s : Shared}
end
end L2
namespace L2
open PySem PySem.Spec PyProof.Rows
section
variable {X : Cx}
theorem mt_update : MtM X "dict.update" (fun x xs H Q => ∃ a b kvs more, x = .ref a ∧ xs = [.ref b] ∧ a ≠ b ∧ H a = some (.dK kvs) ∧ H b = some (.dK more) ∧ kvs.length + more.length ≤ sizeLine ∧ Q .non (upd H a (.dK (mergeK kvs more)))) := by
  intro pins s σ H x xs v us Q I rx rs h
  obtain ⟨a, b, kvs, more, rfl, rfl, ne, ha, hb, hz, q⟩ := h
  cases (show v = Value.ref a from rx)
  obtain ⟨u, rfl, ru⟩ := vals1 rs
  cases ru
  obtain ⟨z1, d1, vs1, rel1, dd1⟩ := dk_of I.hok ha
  obtain ⟨z2, d2, vs2, rel2, dd2⟩ := dk_of I.hok hb
  refine call_meetsIn PySem.F.slot_dict_update dd1.typeIs PySem.F.entry_dict_update (PySem.F.args_dict_update_2 _ _) (meets_dict_update (mixKind X.prog X.w) a b ne d2) ⟨vs1, vs2, dd1, dd2, by rw [← rel1.length, ← rel2.length]; exact hz, fun h' m1 m2 sb => ?_⟩
  have he : ∃ q, h'.get? a = some q := let ⟨q, _, _, hq, _⟩ := m1; ⟨q, hq⟩
  have hl : (mergeK kvs more).length ≤ sizeLine := by
    refine Nat.le_trans ?_ hz
    clear hz q rel2 dd2 m1 m2 hb z2 ha rel1 dd1 z1
    induction more generalizing kvs with
    | nil => exact Nat.le_refl _
    | cons p r ih =>
      have h1 := ih (kvs := putK kvs p.1 p.2)
      have h2 := length_putK kvs p.1 p.2
      show (mergeK (putK kvs p.1 p.2) r).length ≤ _
      rw [List.length_cons]
      omega
  exact ⟨.non, _, d_write I (by rw [ha]; exact True.intro) sb he (dk_new hl d1 (rel2.merge rel1) m1), rfl, q⟩
end
section
variable {prog : Program} {w : World} {A : Around} {E : Value → Shared → Prop} {s : Shared}
theorem sorted_by {x : Value} {ss : List Str} {Q : Value → Shared → Prop} (h64 : ss.length < 64)
    (col : ∀ (R : List Value → Shared → Prop), (∀ (h' : Heap) (tk : Nat) (vs : List Value), (∀ b o, s.heap.get? b = some o → h'.get? b = some o) → StrsAre vs ss → R vs { s with heap := h', toks := tk }) → wpAny (model prog w) A.in1 (collect x) R E s)
    (h : ∀ (h1 h' : Heap) (tk : Nat) (out : List Value) (ss' : List Str) (n : Nat), (∀ b o, s.heap.get? b = some o → h1.get? b = some o) → (∀ b o, h1.get? b = some o → h'.get? b = some o) → h'.get? h1.objs.size = some (seqObj "list" out.toArray n) → StrsAre out ss' → ss'.Perm ss → sortedS ss' = true → Q (.ref h1.objs.size) { s with heap := h', toks := tk }) :
    wpAny (model prog w) A (call (.builtin "sorted") [x]) Q E s := by
  refine Calls.call_function_entry kind_sorted plain_sorted entry_sorted (args_sorted1 _) ?_
  unfold Builtin.«sorted»
  refine wpAny_bind (m := checkCount "sorted" 1 1 _) (wpAny_pure ?_)
  refine wpAny_bind (col _ fun h' tk vs kk hS => ?_)
  have hl : vs.length = ss.length := by rw [← hS.strs, List.length_map]
  have sl0 : sizeLine = 16777216 := sizeLine_eq
  refine wpAny_bind (wpAny_newList ?_ (by omega))
  have g0 : (h'.push (seqObj "list" vs.toArray 0)).get? h'.objs.size = some (seqObj "list" vs.toArray 0) := Heap.get?_push_size _ rfl
  refine wpAny_bind (wpAny_holding (wpAny_call_entry slot_list_sort (s := { s with heap := h'.push (seqObj "list" vs.toArray 0), toks := tk }) ⟨_, g0, rfl⟩ entry_list_sort
    (list_sort_treeK (s := { s with heap := h'.push (seqObj "list" vs.toArray 0), toks := tk }) strKind_oneLt g0 hS.keysOf (fun v₁ v₂ rest e => keyKind_strs (by rw [← e]; exact hS)) (by omega) fun st' p1 p2 => ⟨_, rfl, ?_⟩) (args_list_sort _)))
  obtain ⟨ss', q1, q2, q3⟩ := sorted_out_str hS p1 p2
  obtain ⟨n, hn⟩ := sortedHeap_at (vs := vs) (out := (arrOf st').map (·.2)) g0
  refine wpAny_pure ⟨_, rfl, h h' _ tk ((arrOf st').map (·.2)).toList ss' n kk (fun b o e1 => ?_) (by rw [Array.toArray_toList]; exact hn) q1 q2 q3⟩
  have lt : b < h'.objs.size := Heap.lt_size e1
  show (sortedHeap (h'.push (seqObj "list" vs.toArray 0)) h'.objs.size vs _).get? b = some o
  rw [sortedHeap_old (Nat.ne_of_lt lt) (by rw [Heap.size_push]; exact Nat.lt_succ_of_lt lt)]
  exact Heap.get?_push_of_some _ e1
end
section
variable {X : Cx}
theorem strs_to : ∀ {ss : List Str} {us : List Value}, StrsAre us ss → Vals (ss.map V.str) us := by
  intro ss us h
  induction h with
  | nil => exact .nil
  | cons x t _ ih => exact .cons ⟨t, rfl⟩ ih
theorem strs_at : ∀ {ss : List Str} {us : List Value}, us.length = ss.length → (∀ (i : Nat) (v : Value), us[i]? = some v → ∃ x t, ss[i]? = some x ∧ v = .str x t) → StrsAre us ss
  | [], [], _, _ => .nil
  | x :: ss, u :: us, hl, h => by
    obtain ⟨y, t, e, rfl⟩ := h 0 u rfl
    cases (show some x = some y from e)
    exact .cons x t (strs_at (by simpa using hl) fun i v e => h (i + 1) v (by simpa using e))
  | [], _ :: _, hl, _ => by simp at hl
  | _ :: _, [], hl, _ => by simp at hl
theorem call_sortedD (hc : X.calm = true) : CallR X (.builtin "sorted") (fun xs H Q => ∃ p kvs ss, xs = [.ref p] ∧ H p = some (.dK kvs) ∧ kvs.map (·.1) = ss.map Sum.inr ∧ ss.length < 64 ∧ ∀ l ss', H l = none → ss'.Perm ss → sortedS ss' = true → Q (.ref l) (upd H l (.lst (ss'.map V.str)))) := by
  intro pins s σ H xs us Q I r h
  obtain ⟨p, kvs, ss, rfl, hp, hk, h64, q⟩ := h
  obtain ⟨u, rfl, ru⟩ := vals1 r
  cases ru
  obtain ⟨z, d, vs, rel, dd⟩ := dk_of I.hok hp
  have hl : kvs.length = ss.length := by have := congrArg List.length hk; simpa using this
  have hvl : vs.length = ss.length := by rw [← rel.length]; exact hl
  have sl0 : sizeLine = 16777216 := sizeLine_eq
  obtain ⟨ep, hat⟩ := dd.dictAt
  refine sorted_by h64 (fun R hR => PySem.W.kdu_collect (A := X.A.in1) (PySem.W.kdl_dict (knd := mixKind X.prog X.w) (kvs := vs) (ep := ep) d) (by simpa using I.ok.hd hc) hat (by omega) fun h' tk acc kk hacc => hR h' tk acc.toList kk ?_) fun h1 h' tk out ss' n k1 k2 ho hS hp2 hs => ?_
  · refine strs_at (by rw [Array.length_toList]; exact hacc.1.trans hvl) fun i v e => ?_
    obtain ⟨k, x, ek, hk'⟩ := hacc.2 i v (by simpa using e)
    have ek2 : (kvs.map (·.1))[i]? = some k := by
      rw [rel.keys, List.getElem?_map, ek]; rfl
    rw [hk, List.getElem?_map] at ek2
    cases es : ss[i]? with
    | none => rw [es] at ek2; cases ek2
    | some y =>
      rw [es] at ek2
      cases (show some (Sum.inr y : Key) = some k from ek2)
      rcases keyIs_shape (show keyIs (Sum.inr y) v = true from hk') with ⟨j, t, e1, e2⟩ | ⟨x', t, e1, e2⟩
      · cases e1
      · cases e1
        exact ⟨y, t, rfl, e2⟩
  · have I1 : Inv X pins σ H { s with heap := h1, toks := tk } := I.kept k1
    have hl' : ss'.length = ss.length := hp2.length_eq
    exact ⟨.ref h1.objs.size, _, I1.laid (t' := tk) (o := .lst (ss'.map V.str)) k2 (Nat.le_refl _) ⟨by rw [List.length_map]; omega, out, n, strs_to hS, ho⟩, rfl, q _ _ (I1.hok.fresh (Nat.le_refl _)) hp2 hs⟩
end
end L2
namespace L2
open PySem PySem.Spec PyProof.Rows
noncomputable def RawD (h : Heap) (d : Addr) (es : Array DictEntry) (ep : Nat) : Prop := ∃ o, h.get? d = some o ∧ o.ExactDict ∧ o.data = .dict es ep
section
variable {prog : Program} {w : World} {A : Around} {E : Value → Shared → Prop} {s : Shared}
theorem RawD.typ {d : Addr} {es : Array DictEntry} {ep : Nat} (R : RawD s.heap d es ep) : s.TypeIs (.ref d) "dict" := let ⟨o, e, x, _⟩ := R; ⟨o, e, x.1⟩
theorem rawIter {d : Addr} {es : Array DictEntry} {ep : Nat} {Q : Value → Shared → Prop} (nS : (d == sysModules) = false) (R : RawD s.heap d es ep)
    (q : Q (.ref s.heap.objs.size) { s with heap := s.heap.push { cls := .type "dict_keyiterator", data := .fields #[.ref d, .int 0 0, .int es.size 0, .int ep 0] } }) : wpAny (model prog w) A (pyIter (.ref d)) Q E s := by
  have T := R.typ
  obtain ⟨o, e, _, dat⟩ := R
  refine wpAny_pyIter_slot T PySem.F.slot_dict_iter (wpAny_call_entry PySem.F.slot_dict_iter T PySem.F.entry_dict_iter ?_ (PySem.F.args_dict_iter_1 _))
  unfold Builtin.«dict.__iter__»
  refine wpAny_bind ?_
  unfold Builtin.Dict.dictSlotNone
  refine wpAny_bind (wpAny_notOrdered_dict T ?_)
  show wpAny _ _ (pure (Value.ref d)) _ _ s
  refine wpAny_pure ?_
  show wpAny _ _ (Builtin.Dict.showsAll d >>= _) _ _ s
  unfold Builtin.Dict.showsAll
  rw [if_neg (by rw [nS]; exact Bool.false_ne_true)]
  refine wpAny_bind (wpAny_pure (wpAny_bind (wpAny_dictEntries e dat (wpAny_bind (wpAny_dictEpoch e dat ?_)))))
  refine wpAny_bind (wpAny_newObj_type (wpAny_pure ⟨_, rfl, "dict_keyiterator", _, ⟨_, Heap.get?_push_size _ rfl, rfl⟩, PySem.F.slot_dict_keyiterator_next.lookup, ?_⟩))
  simpa [rawInt] using q
theorem rawItem {it d : Addr} {i ep : Nat} {es : Array DictEntry} {Q : Option Value → Shared → Prop} (K : s.heap.IsKeyIter it d i es.size ep) (R : RawD s.heap d es ep) (lt : i < es.size)
    (q : ∀ h', h'.IsKeyIter it d (i + 1) es.size ep → Heap.SameBut it s.heap h' → Q (some es[i].key) { s with heap := h' }) : wpAny (model prog w) A (pyNext (.ref it)) Q E s := by
  obtain ⟨o, e, c, dt⟩ := id K
  obtain ⟨od, e2, _, dd⟩ := R
  unfold pyNext
  refine wpAny_bind (wpAny_attempt (wpAny_callSpecial?_slot (name := Str.ofString "__next__") K.typeIs PySem.F.slot_dict_keyiterator_next (wpAny_call_entry PySem.F.slot_dict_keyiterator_next K.typeIs PySem.F.entry_dict_keyiterator_next ?_ (PySem.F.args_dict_keyiterator_next_1 _))))
  refine wpAny_bind (wpAny_pure (wpAny_bind (wpAny_bind ?_)))
  first | refine wpAny_bind (wpAny_typeNameOfWhole_keyiter K.typeIs (wpAny_pure ?_)) | refine wpAny_bind (wpAny_typeNameOf_keyiter K.typeIs (wpAny_pure ?_))
  refine wpAny_bind (wpAny_fieldsOf e dt ?_)
  have own : Builtin.Dict_items.ownsTuple "dict_keyiterator" = false := by decide
  simp only [own, Bool.false_eq_true, if_false]
  show wpAny _ _ (if (Value.ref d == Value.none) = true then _ else _) _ _ s
  rw [if_neg (show ¬ ((Value.ref d == Value.none) = true) from Bool.false_ne_true)]
  refine wpAny_bind (wpAny_pure (wpAny_bind (wpAny_dictEntries e2 dd ?_)))
  rw [if_neg (by simp)]
  refine wpAny_bind (wpAny_pure (wpAny_bind (wpAny_dictEpoch e2 dd ?_)))
  rw [if_neg (by simp)]
  refine wpAny_pure ?_
  simp only [show ¬ ((i : Int) < 0) from by omega, if_false, Int.toNat_natCast, Array.getElem?_eq_getElem lt]
  refine wpAny_bind ?_
  first | refine wpAny_bind (wpAny_typeNameOfWhole_keyiter K.typeIs (wpAny_pure ?_)) | refine wpAny_bind (wpAny_typeNameOf_keyiter K.typeIs (wpAny_pure ?_))
  refine wpAny_bind (wpAny_isOneOf_keyiter K.typeIs ?_)
  show wpAny _ _ (setField (.ref it) 1 (rawInt ((i : Int) + 1)) >>= _) _ _ s
  refine wpAny_bind (wpAny_setField e dt (by simp) ?_)
  have K' : (s.heap.update it (Obj.mapFields (·.setIfInBounds 1 (rawInt ((i : Int) + 1))))).IsKeyIter it d (i + 1) es.size ep := ⟨_, Heap.get?_update_self _ e (Obj.isFreed_of_fields (Obj.data_mapFields dt _)), (Obj.cls_mapFields ..).trans c, by rw [Obj.data_mapFields dt]; simp [rawInt]⟩
  refine wpAny_bind (wpAny_holding (wpAny_bind (wpAny_isOneOf_keyiter (s := { s with heap := s.heap.update it (Obj.mapFields (·.setIfInBounds 1 (rawInt ((i : Int) + 1)))) }) K'.typeIs ?_)))
  show wpAny _ _ (pure es[i].key) _ _ _
  exact wpAny_pure (wpAny_pure ⟨_, rfl, wpAny_pure (q _ K' (Heap.SameBut.update ..))⟩)
theorem rawEnd {it d : Addr} {ep : Nat} {es : Array DictEntry} {Q : Option Value → Shared → Prop} (hh : A.handled = none) (K : s.heap.IsKeyIter it d es.size es.size ep) (R : RawD s.heap d es ep) (q : ∀ h', Heap.ExtBut it s.heap h' → Q none { s with heap := h' }) :
    wpAny (model prog w) A (pyNext (.ref it)) Q E s := by
  obtain ⟨o, e, c, dt⟩ := id K
  obtain ⟨od, e2, _, dd⟩ := R
  unfold pyNext
  refine wpAny_bind (wpAny_attempt (wpAny_callSpecial?_slot (name := Str.ofString "__next__") K.typeIs PySem.F.slot_dict_keyiterator_next (wpAny_call_entry PySem.F.slot_dict_keyiterator_next K.typeIs PySem.F.entry_dict_keyiterator_next ?_ (PySem.F.args_dict_keyiterator_next_1 _))))
  refine wpAny_bind (wpAny_pure (wpAny_bind (wpAny_bind ?_)))
  first | refine wpAny_bind (wpAny_typeNameOfWhole_keyiter K.typeIs (wpAny_pure ?_)) | refine wpAny_bind (wpAny_typeNameOf_keyiter K.typeIs (wpAny_pure ?_))
  refine wpAny_bind (wpAny_fieldsOf e dt ?_)
  have own : Builtin.Dict_items.ownsTuple "dict_keyiterator" = false := by decide
  simp only [own, Bool.false_eq_true, if_false]
  show wpAny _ _ (if (Value.ref d == Value.none) = true then _ else _) _ _ s
  rw [if_neg (show ¬ ((Value.ref d == Value.none) = true) from Bool.false_ne_true)]
  refine wpAny_bind (wpAny_pure (wpAny_bind (wpAny_dictEntries e2 dd ?_)))
  rw [if_neg (by simp)]
  refine wpAny_bind (wpAny_pure (wpAny_bind (wpAny_dictEpoch e2 dd ?_)))
  rw [if_neg (by simp)]
  refine wpAny_pure ?_
  simp only [show ¬ ((es.size : Int) < 0) from by omega, if_false, Int.toNat_natCast, Array.getElem?_eq_none (Nat.le_refl es.size)]
  refine wpAny_bind ?_
  first | refine wpAny_bind (wpAny_typeNameOfWhole_keyiter K.typeIs (wpAny_pure ?_)) | refine wpAny_bind (wpAny_typeNameOf_keyiter K.typeIs (wpAny_pure ?_))
  show wpAny _ _ (setField (.ref it) 0 .none >>= _) _ _ s
  refine wpAny_bind (wpAny_setField e dt (by simp) ?_)
  show wpAny _ _ (newExc (.type "StopIteration") [] >>= _) _ _ _
  refine wpAny_bind ?_
  simp only [newExc, newTuple]
  refine wpAny_bind (wpAny_newObj_type ?_ (by size_fits))
  refine wpAny_bind (m := firstArgMember _ _) (wpAny_of_eq (a := Value.none) (by first | rfl | (simp only [firstArgMember]; rfl)) (wpAny_newObj_type ?_ (by size_fits)))
  simp only [raiseNew]
  refine wpAny_bind (wpAny_handled ?_)
  rw [show A.in1.handled = none from hh]
  refine (wpAny_bind (wpAny_pure (wpAny_throw ?_)))
  refine (wpAny_bind (wpAny_isInstance (T := "StopIteration") (b := true) ⟨_, Heap.get?_push_size _ rfl, rfl⟩ isSubtype_stop ?_))
  exact wpAny_pure (q _ (((Heap.SameBut.update ..).extBut.push _).push _))
theorem rawSrc {d : Addr} {es : Array DictEntry} {ep : Nat} (nS : (d == sysModules) = false) : PySem.W.KdlSrc prog w "dict" d d es.size (fun i v => ∃ e, es[i]? = some e ∧ v = e.key) (fun h => RawD h d es ep) where
  type := fun _ R => R.typ
  there := fun _ R => let ⟨_, e, _⟩ := R; ⟨Heap.lt_size e, Heap.lt_size e⟩
  keep := fun _ _ R hk => let ⟨o, e, r⟩ := R; ⟨o, hk d (.inl rfl) o e, r⟩
  notList := by decide
  notTuple := by decide
  hint := fun _ _ _ _ R q => PySem.W.kdl_hint_dict R.typ q
  iter := fun A s hh R => by
    have lt : d < s.heap.objs.size := let ⟨_, e, _⟩ := R; Heap.lt_size e
    have ne : d ≠ s.heap.objs.size := Nat.ne_of_lt lt
    refine ⟨_, fun i h => h.IsKeyIter s.heap.objs.size d i es.size ep ∧ RawD h d es ep, (fun _ _ q => rawIter nS R q), ⟨fun b hb => by simp at hb; simp [hb], fun i h h' st hk => ?_, fun i s' Q E hi st q => ?_, fun s' Q E st q => ?_, fun i s' Q E st q => wpAny_pyIter_keyiter st.1 q⟩, ⟨⟨_, Heap.get?_push_size _ rfl, rfl, rfl⟩, let ⟨o, e, r⟩ := R; ⟨o, Heap.get?_push_of_some _ e, r⟩⟩⟩
    · obtain ⟨⟨o, e, r⟩, ⟨o2, e2, r2⟩⟩ := st
      exact ⟨⟨o, hk _ (by simp) o e, r⟩, ⟨o2, hk d (by simp) o2 e2, r2⟩⟩
    · refine rawItem st.1 st.2 hi fun h' K' sb => ?_
      exact q _ h' s'.toks ⟨es[i], by simp [hi], rfl⟩ ⟨K', let ⟨o, e, r⟩ := st.2; ⟨o, sb.extBut d o ne e, r⟩⟩ fun b o hb e => sb.extBut b o (fun z => hb (by simp [z])) e
    · exact rawEnd hh st.1 st.2 fun h' he => q h' s'.toks fun b o hb e => he b o (fun z => hb (by simp [z])) e
end
end L2
namespace L2
open PySem PySem.Spec PyProof.Rows PySem.W
noncomputable def runOk {α : Type} (n : Nat) (lt : Nat → Nat → Bool) : KasT α → Option α
  | .ret a => some a
  | .ask i j k => if i < n ∧ j < n then runOk n lt (k (lt i j)) else none
theorem runOk_wp {α : Type} {n : Nat} {lt : Nat → Nat → Bool} {ask : Nat → Nat → (Bool → Shared → Prop) → Shared → Prop} {s : Shared} (ha : ∀ i j C, i < n → j < n → C (lt i j) s → ask i j C s) : ∀ (t : KasT α) (a : α) (Q : α → Shared → Prop), runOk n lt t = some a → Q a s → t.kasWp ask Q s
  | .ret b, a, Q, h, q => by
    cases (show some b = some a from h)
    exact q
  | .ask i j k, a, Q, h, q => by
    have h' : (if i < n ∧ j < n then runOk n lt (k (lt i j)) else none) = some a := h
    by_cases c : i < n ∧ j < n
    · rw [if_pos c] at h'
      exact ha i j _ c.1 c.2 (runOk_wp ha (k (lt i j)) a Q h' q)
    · rw [if_neg c] at h'; cases h'
theorem runOk_eq {α : Type} {n : Nat} {lt lt' : Nat → Nat → Bool} (h : ∀ i j, i < n → j < n → lt i j = lt' i j) : ∀ t : KasT α, runOk n lt t = runOk n lt' t
  | .ret _ => rfl
  | .ask i j k => by
    show (if i < n ∧ j < n then runOk n lt (k (lt i j)) else none) = if i < n ∧ j < n then runOk n lt' (k (lt' i j)) else none
    by_cases c : i < n ∧ j < n
    · rw [if_pos c, if_pos c, h i j c.1 c.2]; exact runOk_eq h _
    · rw [if_neg c, if_neg c]
noncomputable def rk (r : List Nat) (i j : Nat) : Bool := decide (r.getD i 0 < r.getD j 0)
noncomputable def checkP (n : Nat) (r : List Nat) : Bool := match runOk n (rk r) (kas_sort n) with
  | some p => (p.toList.map fun i => r.getD i 0) == List.range n && p.toList.all fun i => decide (i < n)
  | none => false
noncomputable def insAll (x : Nat) : List Nat → List (List Nat)
  | [] => [[x]]
  | y :: l => (x :: y :: l) :: (insAll x l).map (y :: ·)
noncomputable def perms : List Nat → List (List Nat)
  | [] => [[]]
  | x :: l => (perms l).flatMap (insAll x)
theorem mem_insAll (x : Nat) : ∀ (a b : List Nat), a ++ x :: b ∈ insAll x (a ++ b)
  | [], [] => List.mem_cons_self
  | [], _ :: _ => List.mem_cons_self
  | y :: a, b => List.mem_cons_of_mem _ (List.mem_map.mpr ⟨_, mem_insAll x a b, rfl⟩)
theorem mem_perms : ∀ (l l' : List Nat), l'.Perm l → l' ∈ perms l
  | [], l', h => by rw [List.Perm.eq_nil h]; exact List.mem_cons_self
  | x :: l, l', h => by
    obtain ⟨a, b, rfl⟩ := List.append_of_mem (h.mem_iff.mpr List.mem_cons_self)
    have h2 : (a ++ b).Perm l := (List.perm_middle.symm.trans h).cons_inv
    exact List.mem_flatMap.mpr ⟨a ++ b, mem_perms l _ h2, mem_insAll x a b⟩
theorem check6 : ((List.range 7).all fun n => n < 2 || (perms (List.range n)).all (checkP n)) = true := by decide +kernel
theorem check_of {n : Nat} {r : List Nat} (h2 : 2 ≤ n) (h6 : n ≤ 6) (hr : r.Perm (List.range n)) : checkP n r = true := by
  have h := List.all_eq_true.mp check6 n (List.mem_range.mpr (by omega))
  rw [Bool.or_eq_true] at h
  rcases h with h | h
  · have := of_decide_eq_true h; omega
  · exact List.all_eq_true.mp h r (mem_perms _ _ hr)
structure Strict {κ : Type} (lt : κ → κ → Bool) : Prop where
  irr : ∀ a, lt a a = false
  trans : ∀ a b c, lt a b = true → lt b c = true → lt a c = true
  tot : ∀ a b, a ≠ b → lt a b = true ∨ lt b a = true
section
variable {κ : Type} {lt : κ → κ → Bool} (S : Strict lt)
include S
noncomputable def rankOf (lt : κ → κ → Bool) (ks : List κ) (k : κ) : Nat := ks.countP fun k' => lt k' k
omit S in
theorem countP_lt {p q : κ → Bool} {ks : List κ} (h : ∀ x ∈ ks, p x = true → q x = true) {z : κ} (hz : z ∈ ks) (h1 : p z = false) (h2 : q z = true) : ks.countP p < ks.countP q := by
  induction ks with
  | nil => cases hz
  | cons x l ih =>
    have hl : l.countP p ≤ l.countP q := List.countP_mono_left fun y hy => h y (List.mem_cons_of_mem _ hy)
    rcases List.mem_cons.mp hz with e | e
    · subst e
      rw [List.countP_cons, List.countP_cons, h1, h2]
      simp; omega
    · have hlt := ih (fun y hy => h y (List.mem_cons_of_mem _ hy)) e
      rw [List.countP_cons, List.countP_cons]
      cases hp : p x with
      | false => simp; omega
      | true => rw [h x List.mem_cons_self hp]; simp; omega
theorem rank_lt {ks : List κ} {a b : κ} (ha : a ∈ ks) (h : lt a b = true) : rankOf lt ks a < rankOf lt ks b :=
  countP_lt (fun x _ hx => S.trans _ _ _ hx h) ha (S.irr a) h
theorem rank_iff {ks : List κ} {a b : κ} (ha : a ∈ ks) (hb : b ∈ ks) : decide (rankOf lt ks a < rankOf lt ks b) = lt a b := by
  cases h : lt a b with
  | true => exact decide_eq_true (rank_lt S ha h)
  | false =>
    refine decide_eq_false fun z => ?_
    rcases Classical.em (a = b) with e | e
    · subst e; omega
    · rcases S.tot a b e with q | q
      · rw [h] at q; cases q
      · have := rank_lt S hb q; omega
theorem rank_bound {ks : List κ} {a : κ} (ha : a ∈ ks) : rankOf lt ks a < ks.length := by
  have h := countP_lt (p := fun k' => lt k' a) (q := fun _ => true) (ks := ks) (fun _ _ _ => rfl) ha (S.irr a) rfl
  rw [List.countP_true] at h
  exact h
theorem ranks_perm {ks : List κ} (hn : ks.Nodup) : (ks.map (rankOf lt ks)).Perm (List.range ks.length) := by
  have nd : (ks.map (rankOf lt ks)).Nodup := by
    rw [List.nodup_iff_pairwise_ne, List.pairwise_map]
    refine List.Pairwise.imp_of_mem (fun {a b} ha hb h => ?_) (List.nodup_iff_pairwise_ne.mp hn)
    intro z
    rcases S.tot a b h with q | q
    · have := rank_lt S ha q; omega
    · have := rank_lt S hb q; omega
  have sub : (ks.map (rankOf lt ks)) ⊆ List.range ks.length := fun x hx => by
    obtain ⟨k, hk, rfl⟩ := List.mem_map.mp hx
    exact List.mem_range.mpr (rank_bound S hk)
  rw [List.perm_ext_iff_of_nodup nd List.nodup_range]
  intro x
  constructor
  · exact fun h => sub h
  · intro h
    apply Classical.byContradiction
    intro hx
    have h1 : (x :: ks.map (rankOf lt ks)).Nodup := List.nodup_cons.mpr ⟨hx, nd⟩
    have h2 : (x :: ks.map (rankOf lt ks)) ⊆ List.range ks.length := fun y hy => by
      rcases List.mem_cons.mp hy with e | e
      · rw [e]; exact h
      · exact sub e
    have := h1.length_le_of_subset h2
    rw [List.length_cons, List.length_map, List.length_range] at this
    omega
theorem sort_few {ks : List κ} (hn : ks.Nodup) (h2 : 2 ≤ ks.length) (h6 : ks.length ≤ 6) (d : κ) :
    ∃ p : Array Nat, runOk ks.length (fun i j => lt (ks.getD i d) (ks.getD j d)) (kas_sort ks.length) = some p ∧ (p.toList.map fun i => ks.getD i d).Perm ks ∧ (p.toList.map fun i => ks.getD i d).Pairwise (fun a b => lt a b = true) ∧ ∀ i ∈ p.toList, i < ks.length := by
  have hp := ranks_perm S hn
  have hc := check_of h2 h6 hp
  have at' : ∀ i, i < ks.length → (ks.map (rankOf lt ks)).getD i 0 = rankOf lt ks (ks.getD i d) := fun i hi => by
    simp [List.getD, List.getElem?_map, List.getElem?_eq_getElem hi]
  have mem : ∀ i, i < ks.length → ks.getD i d ∈ ks := fun i hi => by
    simp only [List.getD, List.getElem?_eq_getElem hi, Option.getD_some]
    exact List.getElem_mem hi
  have e : runOk ks.length (fun i j => lt (ks.getD i d) (ks.getD j d)) (kas_sort ks.length) = runOk ks.length (rk (ks.map (rankOf lt ks))) (kas_sort ks.length) := runOk_eq (fun i j hi hj => by
    unfold rk
    rw [at' i hi, at' j hj, rank_iff S (mem i hi) (mem j hj)]) _
  unfold checkP at hc
  rw [← e] at hc
  cases hr : runOk ks.length (fun i j => lt (ks.getD i d) (ks.getD j d)) (kas_sort ks.length) with
  | none => rw [hr] at hc; cases hc
  | some p =>
    rw [hr] at hc
    have hc' := Bool.and_eq_true_iff.mp hc
    have h1 : (p.toList.map fun i => (ks.map (rankOf lt ks)).getD i 0) = List.range ks.length := by simpa using hc'.1
    have hb : ∀ i ∈ p.toList, i < ks.length := fun i hi => of_decide_eq_true (List.all_eq_true.mp hc'.2 i hi)
    have h1' : (p.toList.map fun i => rankOf lt ks (ks.getD i d)) = List.range ks.length := by
      rw [← h1]
      exact List.map_congr_left fun i hi => (at' i (hb i hi)).symm
    have pw : (p.toList.map fun i => ks.getD i d).Pairwise (fun a b => lt a b = true) := by
      have h3 : (p.toList.map fun i => rankOf lt ks (ks.getD i d)).Pairwise (· < ·) := by rw [h1']; exact List.pairwise_lt_range
      rw [List.pairwise_map] at h3 ⊢
      refine List.Pairwise.imp_of_mem (fun {a b} ha hb' h => ?_) h3
      rw [← rank_iff S (mem a (hb a ha)) (mem b (hb b hb'))]
      exact decide_eq_true h
    refine ⟨p, rfl, ?_, pw, hb⟩
    have nd : (p.toList.map fun i => ks.getD i d).Nodup := by
      rw [List.nodup_iff_pairwise_ne]
      refine pw.imp fun {a b} h z => ?_
      subst z
      rw [S.irr] at h; cases h
    rw [List.perm_ext_iff_of_nodup nd hn]
    have sub : (p.toList.map fun i => ks.getD i d) ⊆ ks := fun x hx => by
      obtain ⟨i, hi, rfl⟩ := List.mem_map.mp hx
      exact mem i (hb i hi)
    have len : (p.toList.map fun i => ks.getD i d).length = ks.length := by
      have := congrArg List.length h1'
      rw [List.length_map, List.length_range] at this
      rw [List.length_map]; exact this
    intro x
    constructor
    · exact fun h => sub h
    · intro h
      apply Classical.byContradiction
      intro hx
      have q1 : (x :: p.toList.map fun i => ks.getD i d).Nodup := List.nodup_cons.mpr ⟨hx, nd⟩
      have q2 : (x :: p.toList.map fun i => ks.getD i d) ⊆ ks := fun y hy => by
        rcases List.mem_cons.mp hy with e | e
        · rw [e]; exact h
        · exact sub e
      have := q1.length_le_of_subset q2
      rw [List.length_cons, len] at this
      omega
end
end L2
namespace L2
open PySem PySem.Spec PyProof.Rows PySem.W
noncomputable def slt (a b : Str) : Bool := decide (a.cps.toList < b.cps.toList)
theorem str_ext {a b : Str} (h : a.cps.toList = b.cps.toList) : a = b := by
  cases a; cases b
  congr 1
  exact Array.toList_inj.mp h
theorem slt_strict : Strict slt where
  irr := fun a => decide_eq_false (List.lt_irrefl _)
  trans := fun a b c h1 h2 => decide_eq_true (List.lt_trans (of_decide_eq_true h1) (of_decide_eq_true h2))
  tot := fun a b h => by
    rcases Classical.em (a.cps.toList < b.cps.toList) with q | q
    · exact .inl (decide_eq_true q)
    · rcases Classical.em (b.cps.toList < a.cps.toList) with q2 | q2
      · exact .inr (decide_eq_true q2)
      · exact absurd (str_ext (List.le_antisymm q2 q)) h
noncomputable def plt (a b : Str × Str) : Bool := if a.1 = b.1 then (if a.2 = b.2 then false else slt a.2 b.2) else slt a.1 b.1
theorem plt_strict : Strict plt where
  irr := fun a => by unfold plt; simp
  trans := fun a b c h1 h2 => by
    unfold plt at h1 h2 ⊢
    have T := slt_strict.trans
    have R := slt_strict.irr
    by_cases e1 : a.1 = b.1
    · rw [if_pos e1] at h1
      by_cases e2 : b.1 = c.1
      · rw [if_pos e2] at h2
        rw [if_pos (e1.trans e2)]
        by_cases f1 : a.2 = b.2
        · rw [if_pos f1] at h1; cases h1
        · rw [if_neg f1] at h1
          by_cases f2 : b.2 = c.2
          · rw [if_pos f2] at h2; cases h2
          · rw [if_neg f2] at h2
            have h3 := T _ _ _ h1 h2
            rw [if_neg (fun z => by rw [z, R] at h3; cases h3)]
            exact h3
      · rw [if_neg e2] at h2
        rw [if_neg (fun z => e2 (e1.symm.trans z)), e1]
        exact h2
    · rw [if_neg e1] at h1
      by_cases e2 : b.1 = c.1
      · rw [if_neg (fun z => e1 (z.trans e2.symm)), ← e2]
        exact h1
      · rw [if_neg e2] at h2
        have h3 := T _ _ _ h1 h2
        rw [if_neg (fun z => by rw [z, R] at h3; cases h3)]
        exact h3
  tot := fun a b h => by
    unfold plt
    by_cases e : a.1 = b.1
    · have f : a.2 ≠ b.2 := fun z => h (Prod.ext e z)
      rw [if_pos e, if_neg f, if_pos e.symm, if_neg (Ne.symm f)]
      exact slt_strict.tot _ _ f
    · rw [if_neg e, if_neg (Ne.symm e)]
      exact slt_strict.tot _ _ e
noncomputable def PairAt (h : Heap) (a : Addr) (v : Value) (k : Str × Str) : Prop := ∃ b o m t u, v = .ref b ∧ b ≠ a ∧ h.get? b = some o ∧ o.cls = .type "tuple" ∧ o.data = .seq #[.str k.1 t, .str k.2 u] m
inductive PairsAt (h : Heap) (a : Addr) : List Value → List (Str × Str) → Prop
  | nil : PairsAt h a [] []
  | cons {v : Value} {vs : List Value} {k : Str × Str} {ks : List (Str × Str)} : PairAt h a v k → PairsAt h a vs ks → PairsAt h a (v :: vs) (k :: ks)
theorem PairsAt.len {h : Heap} {a : Addr} {vs : List Value} {ks : List (Str × Str)} (p : PairsAt h a vs ks) : vs.length = ks.length := by
  induction p with
  | nil => rfl
  | cons _ _ ih => rw [List.length_cons, List.length_cons, ih]
theorem PairsAt.get {h : Heap} {a : Addr} {vs : List Value} {ks : List (Str × Str)} (p : PairsAt h a vs ks) : ∀ i, i < ks.length → PairAt h a (vs.getD i Value.none) (ks.getD i (default, default)) := by
  induction p with
  | nil => intro i hi; cases hi
  | cons q _ ih =>
    intro i hi
    cases i with
    | zero => exact q
    | succ i => exact ih i (Nat.lt_of_succ_lt_succ hi)
theorem PairsAt.keep {h h' : Heap} {a : Addr} {vs : List Value} {ks : List (Str × Str)} (p : PairsAt h a vs ks) (k : ∀ b o, b ≠ a → h.get? b = some o → h'.get? b = some o) : PairsAt h' a vs ks := by
  induction p with
  | nil => exact .nil
  | cons q _ ih =>
    obtain ⟨b, o, m, t, u, e, n, g, r⟩ := q
    exact .cons ⟨b, o, m, t, u, e, n, k b o n g, r⟩ ih
section
variable {prog : Program} {w : World} {A : Around} {E : Value → Shared → Prop} {s : Shared}
theorem pair_lt {a : Addr} {v v' : Value} {k k' : Str × Str} {Q : Bool → Shared → Prop} (p : PairAt s.heap a v k) (p' : PairAt s.heap a v' k') (q : Q (plt k k') s) : wpAny (model prog w) A (keyLt' (tuples' true) v v') Q E s := by
  obtain ⟨b, o, m, t, u, rfl, _, g, c, d⟩ := p
  obtain ⟨b', o', m', t', u', rfl, _, g', c', d'⟩ := p'
  refine kat_lt g d g' d' ?_
  show KatLex prog w A true (decide (2 < 2)) Q [(.str k.1 t, .str k'.1 t'), (.str k.2 u, .str k'.2 u')] 0 s
  unfold plt at q
  refine kat_cons ((mixKind prog w).eqBool (mixKind_str _ _ _ _) (mixKind_str _ _ _ _) ?_)
  by_cases e : k.1 = k'.1
  · rw [if_pos e] at q
    rw [show decide ((Sum.inr k.1 : Key) = Sum.inr k'.1) = true from decide_eq_true (by rw [e])]
    refine kat_yes (kat_cons ((mixKind prog w).eqBool (mixKind_str _ _ _ _) (mixKind_str _ _ _ _) ?_))
    by_cases f : k.2 = k'.2
    · rw [if_pos f] at q
      rw [show decide ((Sum.inr k.2 : Key) = Sum.inr k'.2) = true from decide_eq_true (by rw [f])]
      exact kat_yes (kat_nil q)
    · rw [if_neg f] at q
      rw [show decide ((Sum.inr k.2 : Key) = Sum.inr k'.2) = false from decide_eq_false (fun z => f (Sum.inr.inj z))]
      refine kat_no ?_
      show wpAny _ A (oneLt' false _ _) Q _ s
      exact kat_one _ _ (PySem.P.lt_str q)
  · rw [if_neg e] at q
    rw [show decide ((Sum.inr k.1 : Key) = Sum.inr k'.1) = false from decide_eq_false (fun z => e (Sum.inr.inj z))]
    refine kat_no ?_
    show wpAny _ A (oneLt' true _ _) Q _ s
    exact oneLt_str q
theorem pair_tups {h : Heap} {a : Addr} {vs : List Value} {ks : List (Str × Str)} (p : PairsAt h a vs ks) : ∃ fs, KatTups h vs fs ∧ fs.length = ks.length ∧ ∀ v ∈ fs, ∃ x t, v = Value.str x t := by
  induction p with
  | nil => exact ⟨[], .nil, rfl, fun v h => by cases h⟩
  | cons q _ ih =>
    obtain ⟨fs, h1, h2, h3⟩ := ih
    obtain ⟨b, o, m, t, u, rfl, _, g, c, d⟩ := q
    refine ⟨.str _ t :: fs, .cons g c d (by rfl) h1, by rw [List.length_cons, List.length_cons, h2], fun v hv => ?_⟩
    rcases List.mem_cons.mp hv with e | e
    · exact ⟨_, _, e⟩
    · exact h3 v e
theorem pair_sort {a : Addr} {vs : List Value} {ks : List (Str × Str)} {n : Nat} {P : Fin → Shared → Prop} (ho : s.heap.get? a = some (seqObj "list" vs.toArray n)) (hp : PairsAt s.heap a vs ks) (hn : ks.Nodup) (h6 : ks.length ≤ 6)
    (h : ∀ (l : List Nat), (∀ i ∈ l, i < ks.length) → (l.map fun i => ks.getD i (default, default)).Perm ks → (l.map fun i => ks.getD i (default, default)).Pairwise (fun x y => plt x y = true) → P (.done (.ret .none)) { s with heap := sortedHeap s.heap a vs (l.map fun i => vs.getD i Value.none).toArray }) :
    wpAny (model prog w) A (Builtin.«list.sort» ⟨[.ref a], []⟩) P E s := by
  have sl0 : sizeLine = 16777216 := sizeLine_eq
  have len := hp.len
  rw [list_sort_plain]
  have la : a < s.heap.objs.size := Heap.lt_size ho
  refine wpAny_bind (listItems_at ho rfl (wpAny_bind (listUpdate_at ho rfl ?_ (by rw [List.size_toArray]; omega) (Nat.zero_le _))))
  obtain ⟨e1, g1⟩ : ∃ e1, (s.heap.update a (Obj.mapSeq fun _ => #[])).get? a = some (seqObj "list" #[] e1) := ⟨_, get?_update_seq ho (fun _ => #[])⟩
  refine wpAny_bind (seqEpoch_at g1 rfl (wpAny_bind (wpAny_newTuple ?_ (by simp; omega))))
  refine wpAny_bind (wpAny_newList ?_ (Nat.zero_le _))
  refine wpAny_holding ?_
  have g6 : (((s.heap.update a (Obj.mapSeq fun _ => #[])).push (seqObj "tuple" vs.toArray 0)).push (seqObj "list" #[] 0)).get? a = some (seqObj "list" #[] e1) := Heap.get?_push_of_some _ (Heap.get?_push_of_some _ g1)
  have kk : ∀ b o, b ≠ a → s.heap.get? b = some o → (((s.heap.update a (Obj.mapSeq fun _ => #[])).push (seqObj "tuple" vs.toArray 0)).push (seqObj "list" #[] 0)).get? b = some o := fun b o nb e =>
    Heap.get?_push_of_some _ (Heap.get?_push_of_some _ (((Heap.SameBut.update s.heap a _).2 b nb).trans e))
  show wpAny (model prog w) A _ P E { s with heap := ((s.heap.update a (Obj.mapSeq fun _ => #[])).push (seqObj "tuple" vs.toArray 0)).push (seqObj "list" #[] 0) }
  dsimp only
  have sz : vs.toArray.size = vs.length := by simp
  by_cases c2 : vs.toArray.size < 2
  · rw [if_pos c2, if_pos c2]
    refine wpAny_bind (wpAny_pure ?_)
    rw [StateT.run_pure]
    refine wpAny_bind (wpAny_pure ?_)
    dsimp only
    refine wpAny_bind (seqEpoch_at g6 rfl ?_)
    have em : ((vs.toArray.zip vs.toArray).map (·.2)) = vs.toArray := by
      apply Array.toList_inj.mp
      rw [Array.toList_map, Array.toList_zip]
      exact List.map_snd_zip (Nat.le_refl _)
    refine wpAny_bind (listUpdate_at g6 rfl ?_ (Nat.zero_le _) (by show ((vs.toArray.zip vs.toArray).map (·.2)).size ≤ _; rw [em, sz]; omega))
    simp only [bne_self_eq_false, Bool.false_eq_true, if_false]
    refine wpAny_pure ?_
    show P _ { s with heap := sortedHeap s.heap a vs ((vs.toArray.zip vs.toArray).map (·.2)) }
    rw [em]
    have all : ∀ {α : Type} (xs : List α) (d : α), ((List.range xs.length).map fun i => xs.getD i d) = xs := fun xs d => by
      apply List.ext_getElem
      · simp
      · intro i h1 h2
        simp [List.getD, h2]
    have fin := h (List.range ks.length) (fun i hi => List.mem_range.mp hi) (by rw [all]) (by
      rw [all]
      match ks, len with
      | [], _ => exact List.Pairwise.nil
      | [_], _ => exact List.pairwise_singleton _ _
      | _ :: _ :: _, len => rw [sz, len, List.length_cons, List.length_cons] at c2; omega)
    rw [← len, all] at fin
    exact fin
  · rw [if_neg c2, if_neg c2]
    have p6 := hp.keep kk
    obtain ⟨fs, t1, t2, t3⟩ := pair_tups p6
    obtain ⟨p, r1, r2, r3, r4⟩ := sort_few plt_strict hn (by omega) h6 (default, default)
    refine wpAny_bind (kat_kind (T := .type "str") t1 (by omega) (fun v hv => ?_) rfl ?_)
    · obtain ⟨x, t, rfl⟩ := t3 v hv
      exact .now
    · refine wpAny_bind (wpAny_mono (kat_run (ks := vs) (vs := vs) (κ := tuples' true) (Q := fun st' s' => s' = { s with heap := ((s.heap.update a (Obj.mapSeq fun _ => #[])).push (seqObj "tuple" vs.toArray 0)).push (seqObj "list" #[] 0) } ∧ arrOf st' = p.map (kas_item (vs.toArray.zip vs.toArray)) ∧ failedOf st' = none ∧ p.size = vs.length)
        (G := fun p' s' => p' = p ∧ s' = { s with heap := ((s.heap.update a (Obj.mapSeq fun _ => #[])).push (seqObj "tuple" vs.toArray 0)).push (seqObj "list" #[] 0) }) rfl (by omega) (by omega) (fun p' st' s' q1 q2 q3 ⟨q4, q5⟩ => by subst q4; exact ⟨q5, q2, q3, q1⟩)
        (runOk_wp (n := ks.length) (lt := fun i j => plt (ks.getD i (default, default)) (ks.getD j (default, default))) (fun i j C hi hj hC => pair_lt (p6.get i hi) (p6.get j hj) hC) _ p _ (by rw [len]; exact r1) ⟨rfl, rfl⟩)) ?_ fun _ _ e => e)
      rintro ⟨⟨⟩, st'⟩ s' ⟨rfl, har, hf, hsz⟩
      dsimp only
      have em := kat_snds (vs := vs) rfl har
      refine wpAny_bind (seqEpoch_at g6 rfl ?_)
      have psz : p.toList.length = vs.length := by rw [Array.length_toList]; exact hsz
      refine wpAny_bind (listUpdate_at g6 rfl ?_ (Nat.zero_le _) (by rw [em, List.size_toArray, List.length_map, psz]; omega))
      rw [hf]
      simp only [bne_self_eq_false, Bool.false_eq_true, if_false]
      refine wpAny_pure ?_
      show P _ { s with heap := sortedHeap s.heap a vs ((arrOf st').map (·.2)) }
      rw [em]
      exact h p.toList r4 r2 r3
theorem sortedT_by {x : Value} {ks : List (Str × Str)} {T : List Value → Prop} {Q : Value → Shared → Prop} (hn : ks.Nodup) (h6 : ks.length ≤ 6)
    (col : ∀ (R : List Value → Shared → Prop), (∀ (h' : Heap) (tk : Nat) (vs : List Value), (∀ b o, s.heap.get? b = some o → h'.get? b = some o) → PairsAt h' h'.objs.size vs ks → T vs → R vs { s with heap := h', toks := tk }) → wpAny (model prog w) A.in1 (collect x) R E s)
    (h : ∀ (h1 h' : Heap) (tk : Nat) (vs : List Value) (l : List Nat) (n : Nat), (∀ b o, s.heap.get? b = some o → h1.get? b = some o) → (∀ b o, h1.get? b = some o → h'.get? b = some o) → T vs → vs.length = ks.length → h'.get? h1.objs.size = some (seqObj "list" (l.map fun i => vs.getD i Value.none).toArray n) →
      (∀ i ∈ l, i < ks.length) → (l.map fun i => ks.getD i (default, default)).Perm ks → (l.map fun i => ks.getD i (default, default)).Pairwise (fun x y => plt x y = true) → Q (.ref h1.objs.size) { s with heap := h', toks := tk }) :
    wpAny (model prog w) A (call (.builtin "sorted") [x]) Q E s := by
  refine (Calls.call_function_entry kind_sorted plain_sorted entry_sorted (args_sorted1 _) ?_)
  unfold Builtin.«sorted»
  refine (wpAny_bind (m := checkCount "sorted" 1 1 _) (wpAny_pure ?_))
  refine wpAny_bind (col _ fun h' tk vs kk hS hT => ?_)
  have hl := hS.len
  have sl0 : sizeLine = 16777216 := sizeLine_eq
  refine wpAny_bind (wpAny_newList ?_ (by omega))
  have g0 : (h'.push (seqObj "list" vs.toArray 0)).get? h'.objs.size = some (seqObj "list" vs.toArray 0) := Heap.get?_push_size _ rfl
  refine wpAny_bind (wpAny_holding (wpAny_call_entry slot_list_sort (s := { s with heap := h'.push (seqObj "list" vs.toArray 0), toks := tk }) ⟨_, g0, rfl⟩ entry_list_sort
    (pair_sort (s := { s with heap := h'.push (seqObj "list" vs.toArray 0), toks := tk }) g0 (hS.keep fun b o _ e => Heap.get?_push_of_some _ e) hn h6 fun l l1 l2 l3 => ⟨_, rfl, ?_⟩) (args_list_sort _)))
  obtain ⟨n, gn⟩ := sortedHeap_at (vs := vs) (out := (l.map fun i => vs.getD i Value.none).toArray) g0
  refine wpAny_pure ⟨_, rfl, h h' _ tk vs l n kk (fun b o e1 => ?_) hT hl gn l1 l2 l3⟩
  have lt : b < h'.objs.size := Heap.lt_size e1
  show (sortedHeap (h'.push (seqObj "list" vs.toArray 0)) h'.objs.size vs _).get? b = some o
  rw [sortedHeap_old (Nat.ne_of_lt lt) (by rw [Heap.size_push]; exact Nat.lt_succ_of_lt lt)]
  exact Heap.get?_push_of_some _ e1
end
noncomputable def kP (k : Str × Str) : List Key := [Sum.inr k.1, Sum.inr k.2]
theorem kP_inj {a b : Str × Str} (h : kP a = kP b) : a = b := by
  unfold kP at h
  injection h with h1 h2
  injection h2 with h2 _
  exact Prod.ext (Sum.inr.inj h1) (Sum.inr.inj h2)
section
variable {X : Cx}
theorem paired_get {α β : Type} {F : α → β → Prop} : ∀ {l₁ : List α} {l₂ : List β}, Paired F l₁ l₂ → ∀ {i : Nat} {b : β}, l₂[i]? = some b → ∃ a, l₁[i]? = some a ∧ F a b
  | _, _, .nil, i, b, e => by simp at e
  | _, _, .cons h r, i, b, e => by
    cases i with
    | zero => cases (show some _ = some b from e); exact ⟨_, rfl, h⟩
    | succ i => exact paired_get r (by simpa using e)
theorem paired_keys {H : Hp} : ∀ {kvs : List (List Key × V)} {xs : List (List Key × Addr × Value)}, Paired (fun (p : List Key × V) (q : List Key × Addr × Value) => p.1 = q.1 ∧ H q.2.1 = some (.tup (p.1.map kV)) ∧ RelV p.2 q.2.2) kvs xs → kvs.map (·.1) = xs.map (·.1)
  | _, _, .nil => rfl
  | _, _, .cons h r => by rw [List.map_cons, List.map_cons, h.1, paired_keys r]
theorem pairs_of {h : Heap} {a : Addr} : ∀ {vs : List Value} {ks : List (Str × Str)}, vs.length = ks.length → (∀ i, i < ks.length → PairAt h a (vs.getD i Value.none) (ks.getD i (default, default))) → PairsAt h a vs ks
  | [], [], _, _ => .nil
  | v :: vs, k :: ks, hl, f => .cons (f 0 (Nat.succ_pos _)) (pairs_of (by simpa using hl) fun i hi => f (i + 1) (Nat.succ_lt_succ hi))
  | [], _ :: _, hl, _ => by simp at hl
  | _ :: _, [], hl, _ => by simp at hl
theorem call_sortedT (hc : X.calm = true) : CallR X (.builtin "sorted") (fun xs H Q => ∃ (p : Addr) (kvs : List (List Key × V)) (ks : List (Str × Str)), xs = [.ref p] ∧ H p = some (.dT kvs) ∧ kvs.map (·.1) = ks.map kP ∧ ks.length ≤ 6 ∧
    ∀ (l : Addr) (as : List Addr) (ks' : List (Str × Str)), H l = none → ks'.Perm ks → ks'.Pairwise (fun x y => plt x y = true) → as.length = ks'.length → (∀ (i : Nat) (a : Addr) (k : Str × Str), as[i]? = some a → ks'[i]? = some k → H a = some (.tup ((kP k).map kV))) → Q (.ref l) (upd H l (.lst (as.map V.ref)))) := by
  intro pins s σ H xs us Q I r h
  obtain ⟨p, kvs, ks, rfl, hp, hk, h6, q⟩ := h
  obtain ⟨u, rfl, ru⟩ := vals1 r
  cases ru
  obtain ⟨z, d, xs, rel, o, es, ep, g1, g2, g3, g4, g5⟩ := (show ObjOk X.prog X.w H s.heap p (.dT kvs) from I.hok p _ hp)
  have hkx : xs.map (·.1) = ks.map kP := by
    rw [← hk]
    exact (paired_keys rel).symm
  have hn : ks.Nodup := by
    rw [hkx] at g5
    rw [List.nodup_iff_pairwise_ne] at g5 ⊢
    rw [List.pairwise_map] at g5
    exact g5.imp fun {a b} h e => h (by rw [e])
  have hxl : xs.length = ks.length := by have := congrArg List.length hkx; simpa using this
  have hesl : es.size = ks.length := by rw [← Array.length_toList, g4, List.length_map, hxl]
  have sl0 : sizeLine = 16777216 := sizeLine_eq
  have fact : ∀ i, i < ks.length → (es[i]?).map (·.key) = some (Value.ref (xs.map (·.2.1))[i]!) ∧ H (xs.map (·.2.1))[i]! = some (.tup ((kP (ks.getD i (default, default))).map kV)) := fun i hi => by
    have ex : xs[i]? = some xs[i] := List.getElem?_eq_getElem (by omega)
    obtain ⟨kv, ekv, e1, e2, _⟩ := paired_get rel ex
    have ea : (xs.map (·.2.1))[i]! = xs[i].2.1 := by
      rw [List.getElem!_eq_getElem?_getD, List.getElem?_map, ex]; rfl
    rw [ea]
    refine ⟨?_, ?_⟩
    · rw [← Array.getElem?_toList, g4, List.getElem?_map, ex]; rfl
    · rw [e1] at e2
      have e3 : (xs.map (·.1))[i]? = some xs[i].1 := by rw [List.getElem?_map, ex]; rfl
      rw [hkx, List.getElem?_map, List.getElem?_eq_getElem hi] at e3
      have e4 : kP ks[i] = xs[i].1 := Option.some.inj e3
      have e5 : ks.getD i (default, default) = ks[i] := by simp [List.getD, hi]
      rw [e5, e4]; exact e2
  refine sortedT_by (T := fun vs => ∀ i, i < ks.length → vs.getD i Value.none = .ref (xs.map (·.2.1))[i]!) hn h6 (fun R hR => PySem.W.kdu_collect (A := X.A.in1) (rawSrc (es := es) (ep := ep) d) (by simpa using I.ok.hd hc) ⟨o, g1, g2, g3⟩ (by omega) fun h' tk acc kk hacc => ?_) fun h1 h' tk vs l n k1 k2 hT hvl ho l1 l2 l3 => ?_
  · have al : acc.toList.length = ks.length := by rw [Array.length_toList]; exact hacc.1.trans hesl
    have at' : ∀ i, i < ks.length → acc.toList.getD i Value.none = .ref (xs.map (·.2.1))[i]! := fun i hi => by
      have e1 : acc.toList[i]? = some acc.toList[i] := List.getElem?_eq_getElem (by omega)
      obtain ⟨e, ee, ev⟩ := hacc.2 i acc.toList[i] (by rw [← Array.getElem?_toList]; exact e1)
      have f := (fact i hi).1
      rw [ee] at f
      have f' : e.key = Value.ref (xs.map (·.2.1))[i]! := Option.some.inj f
      simp only [List.getD, e1, Option.getD_some]
      rw [ev, f']
    refine hR h' tk acc.toList kk (pairs_of al fun i hi => ?_) at'
    rw [at' i hi]
    obtain ⟨_, its, rv, ob, e1, e2, m, e3⟩ := (show ObjOk X.prog X.w H s.heap _ (.tup ((kP (ks.getD i (default, default))).map kV)) from I.hok _ _ (fact i hi).2)
    have g := kk _ _ e1
    obtain ⟨v1, v2, rfl, r1, r2⟩ := vals2 (show Vals [V.str _, V.str _] its from rv)
    obtain ⟨t1, rfl⟩ := r1
    obtain ⟨t2, rfl⟩ := r2
    exact ⟨_, ob, m, t1, t2, rfl, Nat.ne_of_lt (Heap.lt_size g), g, e2, e3⟩
  · have I1 : Inv X pins σ H { s with heap := h1, toks := tk } := I.kept k1
    have ll : l.length = ks.length := by have := l2.length_eq; simpa using this
    have eo : (l.map fun i => vs.getD i Value.none) = (l.map fun i => (xs.map (·.2.1))[i]!).map Value.ref := by
      rw [List.map_map]
      exact List.map_congr_left fun i hi => hT i (l1 i hi)
    refine ⟨.ref h1.objs.size, _, I1.laid (t' := tk) (o := .lst ((l.map fun i => (xs.map (·.2.1))[i]!).map V.ref)) k2 (Nat.le_refl _) ⟨by rw [List.length_map, List.length_map]; omega, (l.map fun i => (xs.map (·.2.1))[i]!).map Value.ref, n, ?_, by rw [← eo]; exact ho⟩, rfl,
      q _ _ _ (I1.hok.fresh (Nat.le_refl _)) l2 l3 (by simp) fun j a k ea ek => ?_⟩
    · generalize (l.map fun i => (xs.map (·.2.1))[i]!) = ys
      induction ys with
      | nil => exact .nil
      | cons y ys ih => exact .cons rfl ih
    · rw [List.getElem?_map] at ea ek
      cases ej : l[j]? with
      | none => rw [ej] at ea; cases ea
      | some i =>
        rw [ej] at ea ek
        cases (show some _ = some a from ea)
        cases (show some _ = some k from ek)
        exact (fact i (l1 i (List.mem_of_getElem? ej))).2
end
end L2
namespace L2
open PySem PySem.Spec PyProof.Rows
section
open PySem.SeqAt
open PySem.AutoSeq1 (wpAny_loadPart')
open PySem.MeetsSeq PySem.MeetsSeq2 PySem.MeetsSeq3
end
end L2
namespace L2
open PySem PySem.Spec PyProof.Rows
noncomputable def Tups (H H' : Hp) : Prop := ∀ b xs, H b = some (.tup xs) → H' b = some (.tup xs)
theorem Tups.refl (H : Hp) : Tups H H := fun _ _ h => h
theorem Tups.trans {H H1 H2 : Hp} (a : Tups H H1) (b : Tups H1 H2) : Tups H H2 := fun c o h => b c o (a c o h)
theorem Same.tups {H H' : Hp} (s : Same H H') : Tups H H' := fun b _ e => s b _ e
theorem Tups.new {H H1 : Hp} {p : Addr} {o : HO} (s : Tups H H1) (h : H1 p = none) : Tups H (upd H1 p o) := fun b u e => by rw [upd_ne (ne_of_none (s b u e) h)]; exact s b u e
theorem Tups.put {H H1 : Hp} {p : Addr} {o u : HO} (s : Tups H H1) (h : H1 p = some u) (nt : ∀ xs, u ≠ .tup xs) : Tups H (upd H1 p o) := fun b xs e => by
  have e1 := s b xs e
  have ne : b ≠ p := fun z => by subst z; rw [h] at e1; exact nt xs (Option.some.inj e1)
  rw [upd_ne ne]; exact e1
theorem Grow.more {H1 H H' : Hp} {D : Addr} {ys : List V} (G : Grow H1 H D ys) (s : Same H H') : Grow H1 H' D ys := ⟨s _ _ G.at', G.same.trans s⟩
theorem paired_getL {α β : Type} {F : α → β → Prop} : ∀ {l₁ : List α} {l₂ : List β}, Paired F l₁ l₂ → ∀ {i : Nat} {a : α}, l₁[i]? = some a → ∃ b, l₂[i]? = some b ∧ F a b
  | _, _, .nil, i, b, e => by simp at e
  | _, _, .cons h r, i, b, e => by
    cases i with
    | zero => cases (show some _ = some b from e); exact ⟨_, rfl, h⟩
    | succ i => exact paired_getL r (by simpa using e)
theorem paired_mono {α β : Type} {F G : α → β → Prop} (f : ∀ a b, F a b → G a b) : ∀ {l₁ : List α} {l₂ : List β}, Paired F l₁ l₂ → Paired G l₁ l₂
  | _, _, .nil => .nil
  | _, _, .cons h r => .cons (f _ _ h) (paired_mono f r)
theorem paired_app {α β : Type} {F : α → β → Prop} : ∀ {l₁ m₁ : List α} {l₂ m₂ : List β}, Paired F l₁ l₂ → Paired F m₁ m₂ → Paired F (l₁ ++ m₁) (l₂ ++ m₂)
  | _, _, _, _, .nil, q => q
  | _, _, _, _, .cons h r, q => .cons h (paired_app r q)
section
variable {g : BI → TG} {te : BI → TE} {σ0 : St} {D : Addr} {End : Hp → Prop} {H1 : Hp}
theorem comp_map {K : PySem.W.Frag} {a : Addr} {xs : List V} {ys : List V} (hD : H1 D = none) (hT : SqT K H1 a xs) (hz : xs.length ≤ sizeLine) (hl : ys.length = xs.length)
    (turn : ∀ (i : Nat) (x : V) (H' : Hp), xs[i]? = some x → Same H1 H' → ∀ b (R : VK), (∀ H'' y, ys[i]? = some y → Same H' H'' → R y H'') → g b x σ0 H' fun σ2 H2 => te b σ2 H2 R)
    (fin : ∀ H', Same H1 H' → H' D = some (.lst ys) → End H') :
    ∃ W : Nat → Nat → Hp → Prop, (∃ m, W 0 m (upd H1 D (.lst []))) ∧ ∀ b, CTurn (Itt K a) (g b) (tYes) (aPut D (te b)) σ0 End W :=
  comp_tup (xs := xs) (fun i H' => Grow H1 H' D (ys.take i)) (Grow.start hD) (fun i H' _ G => G.same.tup hT) (fun H' G => fin H' G.same (by have e := G.at'; rw [← hl, List.take_length] at e; exact e)) (fun i x H' hx hi G b =>
    turn i x H' hx G.same b _ fun H'' y hy s => ⟨_, (G.more s).at', by rw [List.length_take]; omega, nx hi (by
      show Grow H1 _ D (ys.take (i + 1))
      rw [List.take_add_one, hy]
      exact (G.more s).put hD _)⟩)
end
section
variable {g : TG} {act : TAct} {End : St → Hp → Prop}
end
end L2
namespace HT
open PySem PySem.Spec PyProof.Rows
section
variable {prog : Program} {w : World} {A : Around} {E : Value → Shared → Prop} {s : Shared}
theorem cat_tup0 {t b : Addr} {ws : List Value} {Q : Value → Shared → Prop} (ht : IsTup s.heap t (#[] : Array Value)) (hb : IsTup s.heap b ws.toArray)
    (h1 : Q (.ref b) s) : wpAny (model prog w) A (binaryOp .Add (.ref t) (.ref b)) Q E s := by
  obtain ⟨⟨cls, dd, data, sl⟩, ho, hc, n, hd⟩ := id ht
  obtain ⟨⟨cls2, dd2, data2, sl2⟩, ho2, hc2, n2, hd2⟩ := id hb
  simp only at hc hd hc2 hd2
  subst hc hd hc2 hd2
  exact concat_meets ⟨_, ho, rfl⟩ ⟨_, ho2, rfl⟩ noFill_tuple_add seq_tuple_add PySem.F.slot_tuple_add PySem.F.entry_tuple_add (PySem.F.args_tuple_add_2 _ _)
      (tuple_addW0 t b #[] ws.toArray n n2 dd dd2 sl sl2 (by simp)) ⟨ho, ho2, h1⟩
theorem getItem_tuple_whole {t sl : Addr} {items : Array Value} {vl vu : Value} {lo hi : Option Int} {Q : Value → Shared → Prop} (ht : IsTup s.heap t items) (hs : s.heap.IsSliceOf sl vl vu .none) (pl : IsPart vl lo) (pu : IsPart vu hi)
    (hw : sIx items.size 0 lo = 0 ∧ sIx items.size items.size hi = items.size)
    (h : Q (.ref t) s) : wpAny (model prog w) A (getItem (.ref t) (.ref sl)) Q E s := by
  obtain ⟨os, hos, hcs, hds⟩ := id hs
  have hTs : s.TypeIs (.ref sl) "slice" := ⟨os, hos, hcs⟩
  unfold getItem
  try with_reducible refine wpAny_holding ?_
  first | refine wpAny_bind (wpAny_pure ?_) | skip
  refine wpAny_bind (wpAny_sequenceKey ht.typeIs (by decide) ?_)
  refine wpAny_bind (wpAny_callSpecial?_slot (name := Str.ofString "__getitem__") ht.typeIs PyProof.Rows.slot_tuple_getitem
    (wpAny_call_entry PyProof.Rows.slot_tuple_getitem ht.typeIs entry_tuple_getitem ?_ (args_tuple_getitem _ _)))
  show wpAny _ _ (Builtin.Tuple.tupleItemsOf (.ref t) >>= _) _ _ s
  refine wpAny_bind (tupleItemsOf_ ht ?_)
  refine wpAny_bind (wpAny_typeOf hTs ?_)
  rw [if_pos (by decide)]
  refine wpAny_bind (sliceApplied_gen hs pl pu ?_)
  have hyes : ((((sIx items.size 0 lo : Nat) : Int) == 0 && (1 : Int) == 1 && (sIx items.size items.size hi - sIx items.size 0 lo) == items.size) = true) := by
    rw [hw.1, hw.2]; simp
  show wpAny _ _ (if (((sIx items.size 0 lo : Nat) : Int) == 0 && (1 : Int) == 1 && (sIx items.size items.size hi - sIx items.size 0 lo) == items.size) = true then _ else _) _ _ s
  rw [if_pos hyes]
  unfold Builtin.Tuple.tupleIsExact
  refine wpAny_bind ?_
  refine wpAny_bind (wpAny_typeOf ht.typeIs ?_)
  refine wpAny_pure ?_
  rw [if_pos (by decide)]
  refine wpAny_bind (wpAny_rule ?_)
  exact wpAny_pure ⟨_, rfl, wpAny_pure h⟩
end
end HT
namespace L2
open PySem PySem.Spec PyProof.Rows
section
variable {X : Cx}
structure CatA (x y : V) (H : Hp) (Q : VK) : Prop where
  h : ∃ a b xs ys, x = .ref a ∧ y = .ref b ∧ H a = some (.tup xs) ∧ H b = some (.tup ys) ∧ xs.length + ys.length ≤ sizeLine ∧ ∀ p H', H' p = some (.tup (xs ++ ys)) → Same H H' → Q (.ref p) H'
theorem oCatA : OpR X (binaryOp .Add) CatA := by
  intro pins s σ H x y v u Q I rx ry ⟨h⟩
  obtain ⟨a, b, xs, ys, rfl, rfl, ha, hb, hz, q⟩ := h
  by_cases hx : xs = []
  · subst hx
    cases rx
    cases ry
    obtain ⟨its, r1, p1, _⟩ := I.tuple (SqT.of ha)
    obtain ⟨its2, r2, p2, _⟩ := I.tuple (SqT.of hb)
    have e : its = [] := r1.nil_iff.mpr rfl
    subst e
    exact HT.cat_tup0 p1 p2 ⟨.ref b, H, I, rfl, q b H hb (Same.refl H)⟩
  · refine op_catT pins s σ H _ _ v u Q I rx ry ⟨a, b, xs, ys, rfl, rfl, SqT.of ha, SqT.of hb, hx, hz, fun e => ?_, fun _ p hp => q p _ upd_same ((Same.refl H).upd hp)⟩
    subst e
    exact q a H (by rw [List.append_nil]; exact ha) (Same.refl H)
structure SlA (x : V) (lo hi : Option Int) (H : Hp) (Q : VK) : Prop where
  h : ∃ a xs, x = .ref a ∧ H a = some (.tup xs) ∧ ∀ p H', H' p = some (.tup (cutV xs lo hi)) → Same H H' → Q (.ref p) H'
theorem iSlA : SlR X SlA := by
  intro pins s σ H x v vl vu lo hi sl Q I rx hs pl pu ⟨h⟩
  obtain ⟨a, xs, rfl, ha, q⟩ := h
  by_cases hw : HT.sIx xs.length 0 lo = 0 ∧ HT.sIx xs.length xs.length hi = xs.length
  · cases rx
    obtain ⟨its, r, ht, hz⟩ := I.tuple (SqT.of ha)
    have hlen : its.toArray.size = xs.length := by rw [List.size_toArray]; exact r.length.symm
    refine ⟨"tuple", _, PyProof.Rows.slot_tuple_getitem.lookup, ht.typeIs, ?_⟩
    refine HT.getItem_tuple_whole ht hs pl pu (by rw [hlen]; exact hw) ⟨.ref a, H, I, rfl, q a H ?_ (Same.refl H)⟩
    rw [ha]
    unfold cutV
    rw [hw.1, hw.2, List.drop_zero, Nat.sub_zero, List.take_length]
  · exact sl_tup pins s σ H _ v vl vu lo hi sl Q I rx hs pl pu ⟨a, xs, rfl, SqT.of ha, hw, fun p hp => q p _ upd_same ((Same.refl H).upd hp)⟩
end
end L2
namespace HT
open PySem PySem.Spec PyProof.Rows
section
variable {prog : Program} {w : World} {A : Around} {E : Value → Shared → Prop} {s : Shared}
end
end HT
namespace L2
open PySem PySem.Spec PyProof.Rows
section
variable {X : Cx}
end
end L2
namespace HT
open PySem PySem.Spec PyProof.Rows
theorem tuple_ne_nil (l b : Addr) (items : Array Value) (n n2 : Nat) (dd dd2 : Option Addr) (sl sl2 : Array (Option Value)) :
    Meets (Builtin.«tuple.__ne__» ⟨[.ref l, .ref b], []⟩) (fun _ R s => s.heap.get? l = some { cls := .type "tuple", dict := dd, data := .seq items n, slots := sl } ∧ s.heap.get? b = some { cls := .type "tuple", dict := dd2, data := .seq #[] n2, slots := sl2 } ∧ R (.ok (.ret (Value.bool (!items.isEmpty)))) s) :=
  .of_wp fun prog w A R s h => by
    obtain ⟨hp, g, d, tk, os⟩ := s; obtain ⟨hl, hb, h⟩ := h; have f2 := AutoSeq1.sub_tuple_tuple
    obtain ⟨items⟩ := items
    cases items with
    | nil =>
      wp_walk using wpAny_loadPart' hl, wpAny_loadPart' hb
      exact ⟨_, rfl, h⟩
    | cons x xs =>
      wp_walk using wpAny_loadPart' hl, wpAny_loadPart' hb
      exact ⟨_, rfl, h⟩
section
variable {prog : Program} {w : World} {A : Around} {E : Value → Shared → Prop} {s : Shared}
theorem ne_tup_nil {t b : Addr} {items : Array Value} {Q : Value → Shared → Prop} (ht : IsTup s.heap t items) (hb : IsTup s.heap b (#[] : Array Value)) (hu : A.units < cLine)
    (h : Q (.bool (!items.isEmpty)) s) : wpAny (model prog w) A (compareOp .NotEq (.ref t) (.ref b)) Q E s := by
  obtain ⟨⟨cls, dd, data, sl⟩, ho, hc, n, hd⟩ := id ht
  obtain ⟨⟨cls2, dd2, data2, sl2⟩, ho2, hc2, n2, hd2⟩ := id hb
  simp only at hc hd hc2 hd2
  subst hc hd hc2 hd2
  exact richCompare_meets_room (op := .NotEq) ⟨_, ho, rfl⟩ ⟨_, ho2, rfl⟩ PySem.F.slot_tuple_ne PySem.F.entry_tuple_ne (PySem.F.args_tuple_ne_2 _ _) (tuple_ne_nil t b items n n2 dd dd2 sl sl2)
    ⟨ho, ho2, show Value.bool (!items.isEmpty) ≠ Value.notImplemented ∧ Q (.bool (!items.isEmpty)) s from ⟨(fun x => nomatch x), h⟩⟩ hu
end
end HT
namespace L2
open PySem PySem.Spec PyProof.Rows
section
variable {X : Cx}
structure NeT (x y : V) (H : Hp) (Q : VK) : Prop where
  h : ∃ a b xs, x = .ref a ∧ y = .ref b ∧ H a = some (.tup xs) ∧ H b = some (.tup []) ∧ Q (.bl (!xs.isEmpty)) H
theorem oNeT (hu : X.A.units < cLine) : OpR X (compareOp .NotEq) NeT := by
  intro pins s σ H x y v u Q I rx ry ⟨h⟩
  obtain ⟨a, b, xs, rfl, rfl, ha, hb, q⟩ := h
  cases rx
  cases ry
  obtain ⟨its, r1, p1, _⟩ := I.tuple (SqT.of ha)
  obtain ⟨its2, r2, p2, _⟩ := I.tuple (SqT.of hb)
  have e : its2 = [] := r2.nil_iff.mpr rfl
  subst e
  refine HT.ne_tup_nil p1 p2 hu ⟨.bl (!xs.isEmpty), H, I, ?_, q⟩
  have e2 : its.toArray.isEmpty = xs.isEmpty := by
    have := r1.nil_iff
    cases xs <;> cases its <;> simp_all
  rw [e2]
  rfl
end
end L2
namespace L2
open PySem PySem.Spec PyProof.Rows
structure SE (X : Cx) (e : Expr) (t : TE) : Prop where
  h : PE X e t
structure SA (X : Cx) (es : List Expr) (t : TA) : Prop where
  h : PA X es t
structure SS (X : Cx) (s : Stmt) (t : TS) : Prop where
  h : PS X s t
structure SSs (X : Cx) (s : List Stmt) (t : TS) : Prop where
  h : PSs X s t
structure SI (X : Cx) (tg it : Expr) (t : TI) : Prop where
  h : PI X tg it t
structure ST (X : Cx) (e : Expr) (t : TT) : Prop where
  h : PT X e t
structure SW (X : Cx) (e : Expr) (t : TT) : Prop where
  h : PW X e t
structure SG (X : Cx) (e : Expr) (t : TG) : Prop where
  h : PG X e t
structure SGs (X : Cx) (e : List Expr) (t : TGs) : Prop where
  h : PGs X e t
structure SO (X : Cx) (e : Option Expr) (t : TO) : Prop where
  h : PO X e t
structure SIf (X : Cx) (e : List Expr) (t : TT) : Prop where
  h : PIf X e t
structure SC (X : Cx) (op : CmpOp) (a b : Expr) (t : TE) : Prop where
  h : PC X op a b t
structure RO (X : Cx) (f : Value → Value → Sem Value) (r : R2) : Prop where
  h : OpR X f r
structure RU (X : Cx) (f : Value → Sem Value) (r : V → Hp → VK → Prop) : Prop where
  h : UnR X f r
structure RC (X : Cx) (f : Value) (r : List V → Hp → VK → Prop) : Prop where
  h : CallR X f r
structure RX (X : Cx) (r : R2) : Prop where
  h : IxR X r
structure RL (X : Cx) (r : V → Option Int → Option Int → Hp → VK → Prop) : Prop where
  h : SlR X r
section
variable {X : Cx} {e a b c o tg elt iter : Expr} {es rest' : List Expr} {te ta tb to : TE} {t : TA} {pos p p2 pos' apos cpos spos : Pos} {st : Stmt} {rest : List Stmt} {ts u : TS} {tA tB' : TT} {lo hi : Option Expr} {tl th : TO} {x : Str} {id T : String} {name : Str}
  {scope scX : Scope} {own cap : List Str} {ix : List Nat} {wi : TI} {g : BI → TG} {tt : BI → TT} {tf : BI → TE} {ifs : List Expr} {i : Nat}
theorem qa_nil : SA X [] tNil := ⟨pa_nil⟩
theorem qa_cons (ha : SE X e te) (hr : SA X es t) (hs : starEach (e :: es) X.env = (false, eval e X.env) :: starEach es X.env := by rfl) : SA X (e :: es) (tCons te t) := ⟨pa_cons ha.h hr.h hs⟩
theorem qV (i : Nat) (hN : X.N[i]? = some x := by rfl) (hv : Vis X.env.scope x := by first | exact Or.inl rfl | exact Or.inr (Or.inl rfl) | exact Or.inr (Or.inr rfl)) (hd : (x == ("__debug__" : Str)) = false := by decide)
    (hcd : (x == ("__classdict__" : Str)) = false := by decide) : SE X (.Name x pos) (tV i) := ⟨pV i hN hv hd hcd⟩
theorem qe_tup {x1} (h : SA X es t) : SE X (.Tuple es x1 pos) (tTup t) := ⟨pe_tup h.h⟩
theorem qe_lst (h : SA X es t) : SE X (.List es pos) (tLst t) := ⟨pe_lst h.h⟩
theorem qe_int {i j} : SE X (.Constant (.int i) j pos) (tC (.int i)) := ⟨pe_int⟩
theorem qe_str {x j} : SE X (.Constant (.str x) j pos) (tC (.str x)) := ⟨pe_str⟩
theorem qe_bl {b j} : SE X (.Constant (.bool b) j pos) (tC (.bl b)) := ⟨pe_bl⟩
theorem qe_non {j} : SE X (.Constant .none j pos) (tC .non) := ⟨pe_non⟩
theorem qe_dnewK : SE X (.Dict [] [] pos) tDNewK := ⟨pe_dnewK⟩
theorem qe_op {op : Operator} {r : R2} (ho : RO X (binaryOp op) r) (ha : SE X a ta) (hb : SE X b tb) : SE X (.BinOp a op b pos) (tOp r ta tb) := ⟨pe_op ho.h ha.h hb.h⟩
theorem qe_un {op : UnaryOp} {r : V → Hp → VK → Prop} (ho : RU X (unaryOp op) r) (ha : SE X a ta) : SE X (.UnaryOp op a pos) (tUn r ta) := ⟨pe_un ho.h ha.h⟩
theorem qe_ix {r : R2} (hr : RX X r) (ha : SE X a ta) (hb : SE X b tb) (hs : PlainIx b) : SE X (.Subscript a b pos) (tOp r ta tb) := ⟨pe_ix hr.h ha.h hb.h hs⟩
theorem qo_none : SO X none tNoPart := ⟨po_none⟩
theorem qoI (h : SE X e te) : SO X (some e) (tPartF te) := ⟨poI h.h⟩
theorem qe_slice {r : V → Option Int → Option Int → Hp → VK → Prop} (hr : RL X r) (he : SE X e te) (hl : SO X lo tl) (hu : SO X hi th) : SE X (.Subscript e (.Slice lo hi none p2) pos) (tSl r te tl th) := ⟨pe_slice hr.h he.h hl.h hu.h⟩
theorem qe_call {CX : CXT} {k : Nat} {f : Addr} {fd : FuncData} {ps : List Str} {sp : Sp} {ds : List Value} {dvs : List V} {E : XK} (F : FnOk X.prog X.w X.K X.mg X.base CX k f fd ps sp) (hr : Room k X.A) (hg : Gl X x) (hm : X.mg x = some (.ref f)) (hk : PySem.W.keepIn X.K (.ref f) = true) (hb : Binds X.K fd ps ds) (hd : Vals dvs ds) (hx : Passes CX X E)
    (ha : SA X (e :: es) t) (hdb : (x == ("__debug__" : Str)) = false := by decide) (he : starEach (e :: es) X.env = (false, eval e X.env) :: starEach es X.env := by rfl) (hpl : (backTo pos (starEach es X.env)).any (·.1) = false := by rfl) :
    SE X (.Call (.Name x p) (e :: es) [] pos) (tCall sp dvs E t) := ⟨pe_call F hr hg hm hk hb hd hx ha.h hdb he hpl⟩
theorem qe_callB {r : List V → Hp → VK → Prop} (hc : RC X (.builtin id) r) (hg : Gl X x) (hm : X.mg x = none) (hv : bootBuiltins x = some (.builtin id)) (ha : SA X (e :: es) t) (hn : x ≠ "__name__" := by decide) (hdb : (x == ("__debug__" : Str)) = false := by decide)
    (he : starEach (e :: es) X.env = (false, eval e X.env) :: starEach es X.env := by rfl) (hpl : (backTo pos (starEach es X.env)).any (·.1) = false := by rfl) : SE X (.Call (.Name x p) (e :: es) [] pos) (tCB r t) := ⟨pe_callB hc.h hg hm hv ha.h hn hdb he hpl⟩
theorem qe_callTy {r : List V → Hp → VK → Prop} (hc : RC X (.type T) r) (hg : Gl X x) (hm : X.mg x = none) (hv : bootBuiltins x = some (.type T)) (ha : SA X (e :: es) t) (hn : x ≠ "__name__" := by decide) (hdb : (x == ("__debug__" : Str)) = false := by decide)
    (he : starEach (e :: es) X.env = (false, eval e X.env) :: starEach es X.env := by rfl) (hpl : (backTo pos (starEach es X.env)).any (·.1) = false := by rfl) : SE X (.Call (.Name x p) (e :: es) [] pos) (tCB r t) := ⟨pe_callTy hc.h hg hm hv ha.h hn hdb he hpl⟩
theorem qe_comp (hc : X.calm = true) (hX : X.env.scope = scX) (S : BlkS scX scope X.N own cap ix) (hi : SI X tg iter wi) (hg : ∀ b, SG (blk X scope (own ++ cap) b) tg (g b)) (ht : ∀ b, SIf (blk X scope (own ++ cap) b) ifs (tt b))
    (he : ∀ b, SE (blk X scope (own ++ cap) b) elt (tf b)) (hs : ∀ x, foldedSetIterable iter X.env x = pure x := by intro _; rfl) :
    SE X (.ListComp elt [⟨tg, iter, ifs, 0⟩] scope pos) (tComp own ix wi g tt tf) := ⟨pe_comp hc hX S hi.h (fun b => (hg b).h) (fun b => (ht b).h) (fun b => (he b).h) hs⟩
theorem qe_one {op : BoolOp} (h : SE X a ta) : SE X (.BoolOp op [a] pos) ta := ⟨pe_one h.h⟩
theorem qeAnd (ha : SE X a ta) (hb : SE X (.BoolOp .And (b :: rest') pos) tb) : SE X (.BoolOp .And (a :: b :: rest') pos) (tAndF ta tb) := ⟨peAnd ha.h hb.h⟩
theorem qif_nil : SIf X [] tYes := ⟨pif_nil⟩
theorem qi_list {l : Expr} {tl : TE} (hl : SE X l tl) : SI X tg l (iList X.K tl) := ⟨pi_list hl.h⟩
theorem qi_tup {l : Expr} {tl : TE} (hl : SE X l tl) : SI X tg l (iTup X.K tl) := ⟨pi_tup hl.h⟩
theorem qi_range1 {ta : TA} (hg : Gl X "range") (hm : X.mg "range" = none) (ha : SA X [a] ta) (hs : starEach [a] X.env = [(false, eval a X.env)] := by rfl) : SI X tg (.Call (.Name "range" p) [a] [] pos) (iRng1 ta) := ⟨pi_range1 hg hm ha.h hs⟩
theorem qtC {op : CmpOp} {r : R2} (ho : RO X (compareOp op) r) (ha : SE X a ta) (hb : SE X b tb) (hm : behindInMarks op b = false) : ST X (.Compare a [op] [b] pos) (tF (tOp r ta tb)) := ⟨ptC ho.h ha.h hb.h hm⟩
theorem qtV {te : TE} (h : SE X e te) (he : ∀ whole, isTrue e X.env whole = (do let v ← whole; standAt e.pos; holding [v] (truthy v)) := by intro _; rfl) : ST X e (tF te) := ⟨ptV h.h he⟩
theorem qt_not (ha : ST X a tA) : ST X (.UnaryOp .Not a pos) (tNot tA) := ⟨pt_not ha.h⟩
theorem qt_cmp {op : CmpOp} {te : TE} (h : SC X op a b te) (h1 : behindInMarks op b = false := by first | exact nobehind _ (by decide) (by decide) | rfl) : ST X (.Compare a [op] [b] pos) (tB te) := ⟨pt_cmp h.h h1⟩
theorem qc_notN {j} (ha : SE X a ta) : SC X .IsNot a (.Constant .none j pos') (tNotN ta) := ⟨pc_notN ha.h⟩
theorem qw_and1 (ha : ST X a tA) : SW X (.BoolOp .And [a] pos) tA := ⟨pw_and1 ha.h⟩
theorem qtAnd (ha : ST X a tA) (hb : SW X (.BoolOp .And (b :: rest') pos) tB') : ST X (.BoolOp .And (a :: b :: rest') pos) (tAnd tA tB') := ⟨ptAnd ha.h hb.h⟩
theorem qg_name {i : Nat} (hN : X.N.Nodup) (hi : X.N[i]? = some x) (hx : Loc X.env.scope x) (hf : X.fn x = true ∨ X.env.scope.names.lookup x = some .local := by first | exact .inl rfl | exact .inr rfl | assumption) : SG X (.Name x pos) (gName i) := ⟨pg_name hN hi hx hf⟩
theorem qgs_nil : SGs X [] gNil := ⟨pgs_nil⟩
theorem qgs_cons {t : TG} {u : TGs} (h1 : SG X e t) (h2 : SGs X es u)
    (hs : (assignEach (e :: es) X.env).map (·.2) = assign e X.env :: (assignEach es X.env).map (·.2) := by rfl) : SGs X (e :: es) (gCons t u) := ⟨pgs_cons h1.h h2.h hs⟩
theorem qg_tup {k : Nat} {t : TGs} {n : Nat} (hc : X.calm = true) (h : SGs X es t)
    (hn : (assignEach es X.env).length = n := by rfl) (hst : (assignEach es X.env).findIdx? (·.1) = none := by rfl) : SG X (.Tuple es k pos) (gTup X.K n t) := ⟨pg_tup hc h.h hn hst⟩
theorem qss_nil : SSs X [] tNext := ⟨pss_nil⟩
theorem qss_cons {t : TS} (h1 : SS X st t) (h2 : SSs X rest u) : SSs X (st :: rest) (tSeq t u) := ⟨pss_cons h1.h h2.h⟩
theorem qss_one {t : TS} (h1 : SS X st t) : SSs X [st] t := ⟨pss_one h1.h⟩
theorem qs_set {i : Nat} (hN : X.N.Nodup) (hi : X.N[i]? = some x) (hx : Loc X.env.scope x) (he : SE X e te) (hs : swapsWith e (some (.Name x pos')) pos.line X.env = pure false := by rfl) (hf : X.fn x = true ∨ X.env.scope.names.lookup x = some .local := by first | exact .inl rfl | exact .inr rfl | assumption) :
    SS X (.Assign [.Name x pos'] e pos) (tAsg te (gName i)) := ⟨ps_set hN hi hx he.h hs hf⟩
theorem qs_asg {g : TG} (he : SE X e te) (hg : SG X tg g) (hs : swapsWithSole [tg] e pos.line X.env = pure false := by rfl) (hw : swappedStores [tg] e X.env = pure none := by rfl)
    (h1 : (assignEach [tg] X.env).map (·.2) = [assign tg X.env] := by rfl) : SS X (.Assign [tg] e pos) (tAsg te g) := ⟨ps_asg he.h hg.h hs hw h1⟩
theorem qs_ret (he : SE X e te) : SS X (.Return (some e) pos) (tRet te) := ⟨ps_ret he.h⟩
theorem qs_if {bs cs : List Stmt} {tc : TT} {t u : TS} (hc : ST X c tc) (ha : SSs X bs t) (hb : SSs X cs u) : SS X (.If c bs cs pos) (tIfS tc t u) := ⟨ps_if hc.h ha.h hb.h⟩
theorem qs_for {body : List Stmt} {g : TG} {tb : TS} (hp : PassesOwn (model X.prog X.w) X.A X.env X.xe) (hc : X.calm = true) (hi : SI X tg iter wi) (hg : SG X tg g) (hb : SSs X body tb)
    (hs : ∀ x, foldedSetIterable iter X.env x = pure x := by intro _; rfl) : SS X (.For tg iter body [] pos) (tFor wi g tb) := ⟨ps_for hp hc hi.h hg.h hb.h hs⟩
end
end L2
namespace K02
open PySem L2
theorem if_join {c : TT} {t e u : TS} {D : Ends} {σ : St} {H : Hp} (N : St → Hp → Prop) (h : ∀ U : St → Hp → Prop, (∀ σ' H', N σ' H' → U σ' H') → tIfS c t e { D with nx := U } σ H) (hN : ∀ σ' H', N σ' H' → u D σ' H') : tSeq (tIfS c t e) u D σ H := h (u D) hN
theorem asg_i {te : TE} {g : TG} {u : TS} {D : Ends} {σ : St} {H : Hp} (h : ∀ U : St → Hp → Prop, U = u D → te σ H fun x H1 => g x σ H1 U) : tSeq (tAsg te g) u D σ H := h (u D) rfl
theorem hideP {G : Prop} (h : ∀ R : Prop, R = G → R) : G := h G rfl
noncomputable def isW : V → Bool
  | .int _ => true
  | _ => false
noncomputable def Thing (K : PySem.W.Frag) (H : Hp) (x : V) : Prop := (∃ T, TyOf K H x (.type T)) ∧ ∀ z, x = .str z → z.length ≤ sizeLine
noncomputable def low (c : Nat) : Bool := 97 ≤ c && c ≤ 122
noncomputable def isN : V → Bool
  | .str z => decide (1 ≤ z.length) && decide (z.length ≤ 8) && z.cps.toList.all low
  | _ => false
noncomputable def spName (K : PySem.W.Frag) : Sp := fun vs H Q _ => ∃ x, vs = [x] ∧ Thing K H x ∧ ∀ H', Same H H' → Q (.bl (isN x)) H'
section
variable {P : Program} {w : World} {K : PySem.W.Frag} {mg : Str → Option Value} {base : Heap} {t8 t6 tR tL : Tok}
theorem low_of (c : Nat) : (!decide ((⟨#[c]⟩ : Str).cps.toList < ("a" : Str).cps.toList)) = decide (97 ≤ c) ∧ (!decide (("z" : Str).cps.toList < (⟨#[c]⟩ : Str).cps.toList)) = decide (c ≤ 122) := by
  have ea : ("a" : Str).cps.toList = [97] := by decide +kernel
  have ez : ("z" : Str).cps.toList = [122] := by decide +kernel
  have es : (⟨#[c]⟩ : Str).cps.toList = [c] := rfl
  rw [ea, ez, es]
  constructor
  · rw [Bool.eq_iff_iff]; simp [lt1]
  · rw [Bool.eq_iff_iff]; simp [lt1]
end
end K02
namespace K02
open PySem L2
structure Good (z : Str) : Prop where
  lo : 1 ≤ z.length
  hi : z.length ≤ 8
  all : ∀ c ∈ z.cps.toList, low c = true
noncomputable abbrev Row := Str × Int
structure House where
  name : Str
  low : Int
  high : Int
  drift : Int
  runs : List (List Row)
noncomputable abbrev Letter := (Str × Str) × Int × Option Int
noncomputable def mostV : Option Int → V
  | none => .non
  | some i => .int i
noncomputable def RowAt (H : Hp) (v : V) (r : Row) : Prop := ∃ a, v = .ref a ∧ H a = some (.tup [.str r.1, .int r.2])
noncomputable def RunAt (H : Hp) (v : V) (rs : List Row) : Prop := ∃ a vs, v = .ref a ∧ H a = some (.tup vs) ∧ Paired (RowAt H) vs rs
noncomputable def RunsAt (H : Hp) (v : V) (rs : List (List Row)) : Prop := ∃ a vs, v = .ref a ∧ H a = some (.tup vs) ∧ Paired (RunAt H) vs rs
noncomputable def HouseAt (H : Hp) (v : V) (h : House) : Prop := ∃ a b, v = .ref a ∧ H a = some (.tup [.str h.name, .int h.low, .int h.high, .int h.drift, b]) ∧ RunsAt H b h.runs
noncomputable def HousesAt (H : Hp) (v : V) (hs : List House) : Prop := ∃ a vs, v = .ref a ∧ H a = some (.tup vs) ∧ Paired (HouseAt H) vs hs
noncomputable def LetterAt (H : Hp) (v : V) (l : Letter) : Prop := ∃ a, v = .ref a ∧ H a = some (.tup [.str l.1.1, .str l.1.2, .int l.2.1, mostV l.2.2])
noncomputable def LettersAt (H : Hp) (v : V) (ls : List Letter) : Prop := ∃ a vs, v = .ref a ∧ H a = some (.tup vs) ∧ Paired (LetterAt H) vs ls
noncomputable def LedgerAt (H : Hp) (v : V) (hs : List House) (ls : List Letter) : Prop := ∃ a x y, v = .ref a ∧ H a = some (.tup [x, y]) ∧ HousesAt H x hs ∧ LettersAt H y ls
section
variable {H H' : Hp} {v : V} (s : Tups H H')
include s
theorem RowAt.ts {r : Row} (h : RowAt H v r) : RowAt H' v r := let ⟨a, e, g⟩ := h; ⟨a, e, s _ _ g⟩
theorem RunAt.ts {r : List Row} (h : RunAt H v r) : RunAt H' v r := let ⟨a, vs, e, g, p⟩ := h; ⟨a, vs, e, s _ _ g, paired_mono (fun _ _ q => RowAt.ts s q) p⟩
theorem RunsAt.ts {r : List (List Row)} (h : RunsAt H v r) : RunsAt H' v r := let ⟨a, vs, e, g, p⟩ := h; ⟨a, vs, e, s _ _ g, paired_mono (fun _ _ q => RunAt.ts s q) p⟩
theorem HouseAt.ts {r : House} (h : HouseAt H v r) : HouseAt H' v r := let ⟨a, b, e, g, p⟩ := h; ⟨a, b, e, s _ _ g, RunsAt.ts s p⟩
theorem LetterAt.ts {r : Letter} (h : LetterAt H v r) : LetterAt H' v r := let ⟨a, e, g⟩ := h; ⟨a, e, s _ _ g⟩
theorem LettersAt.ts {r : List Letter} (h : LettersAt H v r) : LettersAt H' v r := let ⟨a, vs, e, g, p⟩ := h; ⟨a, vs, e, s _ _ g, paired_mono (fun _ _ q => LetterAt.ts s q) p⟩
end
structure GoodRun (rs : List Row) : Prop where
  ne : rs ≠ []
  few : rs.length ≤ 25
  names : ∀ r ∈ rs, Good r.1
  rise : (rs.map Prod.snd).Pairwise (· < ·)
structure GoodHouse (h : House) : Prop where
  name : Good h.name
  wide : h.low ≤ h.high
  drift : 0 ≤ h.drift
  few : h.runs.length ≤ 25
  runs : ∀ r ∈ h.runs, GoodRun r
noncomputable def rowsH (h : House) : List Row := h.runs.flatten
noncomputable def namesH (h : House) : List Str := (rowsH h).map Prod.fst
noncomputable def namesOf (hs : List House) : List Str := hs.flatMap namesH
structure GoodHouses (hs : List House) : Prop where
  lo : 1 ≤ hs.length
  hi : hs.length ≤ 6
  all : ∀ h ∈ hs, GoodHouse h
  names : (hs.map House.name).Nodup
  rows : (namesOf hs).Nodup
  few : (namesOf hs).length ≤ 24
structure GoodLetter (hs : List House) (l : Letter) : Prop where
  sent : Good l.1.1
  taken : Good l.1.2
  least : 1 ≤ l.2.1
  most : ∀ m, l.2.2 = some m → l.2.1 ≤ m
  houses : ∃ h1 ∈ hs, ∃ h2 ∈ hs, l.1.1 ∈ namesH h1 ∧ l.1.2 ∈ namesH h2 ∧ h1.name ≠ h2.name
structure GoodLetters (hs : List House) (ls : List Letter) : Prop where
  few : ls.length ≤ 24
  all : ∀ l ∈ ls, GoodLetter hs l
  rise : (ls.map Prod.fst).Pairwise (fun a b => plt a b = true)
end K02
namespace K02
open PySem L2
inductive Da where
  | non | bl (b : Bool) | int (i : Int) | str (z : Str) | tup (xs : List Da) | oth
mutual
inductive DaAt (H : Hp) : V → Da → Prop
  | non : DaAt H .non .non
  | bl (b : Bool) : DaAt H (.bl b) (.bl b)
  | int (i : Int) : DaAt H (.int i) (.int i)
  | str (z : Str) (h : z.length ≤ sizeLine) : DaAt H (.str z) (.str z)
  | tup {a : Addr} {vs : List V} {xs : List Da} : H a = some (.tup vs) → vs.length ≤ 25 → DaAs H vs xs → DaAt H (.ref a) (.tup xs)
  | lst {a : Addr} {vs : List V} : H a = some (.lst vs) → DaAt H (.ref a) .oth
  | dic {a : Addr} {kvs : List (Key × V)} : H a = some (.dK kvs) → DaAt H (.ref a) .oth
inductive DaAs (H : Hp) : List V → List Da → Prop
  | nil : DaAs H [] []
  | cons {v : V} {vs : List V} {x : Da} {xs : List Da} : DaAt H v x → DaAs H vs xs → DaAs H (v :: vs) (x :: xs)
end
mutual
theorem DaAt.same {H H' : Hp} (s : Same H H') : ∀ {v : V} {d : Da}, DaAt H v d → DaAt H' v d
  | _, _, .non => .non
  | _, _, .bl b => .bl b
  | _, _, .int i => .int i
  | _, _, .str z h => .str z h
  | _, _, .tup h l r => .tup (s _ _ h) l (DaAs.same s r)
  | _, _, .lst h => .lst (s _ _ h)
  | _, _, .dic h => .dic (s _ _ h)
theorem DaAs.same {H H' : Hp} (s : Same H H') : ∀ {v : List V} {d : List Da}, DaAs H v d → DaAs H' v d
  | _, _, .nil => .nil
  | _, _, .cons h r => .cons (DaAt.same s h) (DaAs.same s r)
end
theorem DaAs.len {H : Hp} : ∀ {vs : List V} {xs : List Da}, DaAs H vs xs → vs.length = xs.length
  | _, _, .nil => rfl
  | _, _, .cons _ r => by rw [List.length_cons, List.length_cons, r.len]
theorem DaAs.get {H : Hp} : ∀ {vs : List V} {xs : List Da}, DaAs H vs xs → ∀ {i : Nat} {v : V}, vs[i]? = some v → ∃ x, xs[i]? = some x ∧ DaAt H v x
  | _, _, .nil, i, v, e => by simp at e
  | _, _, .cons h r, i, v, e => by
    cases i with
    | zero => cases (show some _ = some v from e); exact ⟨_, rfl, h⟩
    | succ i => exact r.get (by simpa using e)
theorem DaAs.inv {H : Hp} {vs : List V} {x : Da} {xs : List Da} (h : DaAs H vs (x :: xs)) : ∃ v r, vs = v :: r ∧ DaAt H v x ∧ DaAs H r xs := by
  cases h with
  | cons h r => exact ⟨_, _, rfl, h, r⟩
theorem DaAs.inv0 {H : Hp} {vs : List V} (h : DaAs H vs []) : vs = [] := by cases h; rfl
theorem DaAs.one1 {H : Hp} {vs : List V} {a : Da} (h : DaAs H vs [a]) : ∃ v1, vs = [v1] ∧ DaAt H v1 a := by
  obtain ⟨v, r, rfl, h1, h2⟩ := h.inv
  obtain rfl := h2.inv0
  exact ⟨_, rfl, h1⟩
theorem DaAs.two {H : Hp} {vs : List V} {a b : Da} (h : DaAs H vs [a, b]) : ∃ v1 v2, vs = [v1, v2] ∧ DaAt H v1 a ∧ DaAt H v2 b := by
  obtain ⟨v, r, rfl, h1, h2⟩ := h.inv
  obtain ⟨w, rfl, h3⟩ := h2.one1
  exact ⟨_, _, rfl, h1, h3⟩
theorem DaAs.four {H : Hp} {vs : List V} {a b c d : Da} (h : DaAs H vs [a, b, c, d]) : ∃ v1 v2 v3 v4, vs = [v1, v2, v3, v4] ∧ DaAt H v1 a ∧ DaAt H v2 b ∧ DaAt H v3 c ∧ DaAt H v4 d := by
  obtain ⟨v, r, rfl, h1, h2⟩ := h.inv
  obtain ⟨w, r, rfl, h3, h4⟩ := h2.inv
  obtain ⟨x, y, rfl, h5, h6⟩ := h4.two
  exact ⟨_, _, _, _, rfl, h1, h3, h5, h6⟩
theorem DaAs.five {H : Hp} {vs : List V} {a b c d e : Da} (h : DaAs H vs [a, b, c, d, e]) : ∃ v1 v2 v3 v4 v5, vs = [v1, v2, v3, v4, v5] ∧ DaAt H v1 a ∧ DaAt H v2 b ∧ DaAt H v3 c ∧ DaAt H v4 d ∧ DaAt H v5 e := by
  obtain ⟨v, r, rfl, h1, h2⟩ := h.inv
  obtain ⟨w, x, y, z, rfl, h3, h4, h5, h6⟩ := h2.four
  exact ⟨_, _, _, _, _, rfl, h1, h3, h4, h5, h6⟩
theorem DaAt.tupE {H : Hp} {v : V} {xs : List Da} (h : DaAt H v (.tup xs)) : ∃ a vs, v = .ref a ∧ H a = some (.tup vs) ∧ vs.length ≤ 25 ∧ DaAs H vs xs := by
  cases h with
  | tup h l r => exact ⟨_, _, rfl, h, l, r⟩
noncomputable def isTupD : Da → Bool
  | .tup _ => true
  | _ => false
noncomputable def isWD : Da → Bool
  | .int _ => true
  | _ => false
noncomputable def isND : Da → Bool
  | .str z => isN (.str z)
  | _ => false
theorem DaAt.kind {K : PySem.W.Frag} {H : Hp} {v : V} {d : Da} (h : DaAt H v d) : Thing K H v ∧ (∃ T, TyOf K H v (.type T) ∧ PySem.W.kitOne K (.type T) (.type "tuple") = some (isTupD d)) ∧ isW v = isWD d ∧ isN v = isND d := by
  cases h with
  | non => exact ⟨⟨⟨_, .non⟩, fun z e => by cases e⟩, ⟨_, .non, (kit8 (K := K) (TyOf.non (H := H))).2.2.2⟩, rfl, rfl⟩
  | bl b => exact ⟨⟨⟨_, .bl b⟩, fun z e => by cases e⟩, ⟨_, .bl b, (kit8 (K := K) (TyOf.bl (H := H) b)).2.2.2⟩, rfl, rfl⟩
  | int i => exact ⟨⟨⟨_, .int i⟩, fun z e => by cases e⟩, ⟨_, .int i, (kit8 (K := K) (TyOf.int (H := H) i)).2.2.2⟩, rfl, rfl⟩
  | str z hz => exact ⟨⟨⟨_, .str z⟩, fun y e => by cases e; exact hz⟩, ⟨_, .str z, (kit8 (K := K) (TyOf.str (H := H) z)).2.2.2⟩, rfl, rfl⟩
  | tup e l r => exact ⟨⟨⟨_, .tup e⟩, fun z e => by cases e⟩, ⟨_, .tup e, (kit8 (K := K) (TyOf.tup e)).2.2.2⟩, rfl, rfl⟩
  | lst e => exact ⟨⟨⟨_, .lst e⟩, fun z e => by cases e⟩, ⟨_, .lst e, (kit8 (K := K) (TyOf.lst e)).2.2.2⟩, rfl, rfl⟩
  | dic e => exact ⟨⟨⟨_, .dK e⟩, fun z e => by cases e⟩, ⟨_, .dK e, (kit8 (K := K) (TyOf.dK e)).2.2.2⟩, rfl, rfl⟩
theorem sql_same {K : PySem.W.Frag} {H H' : Hp} {a : Addr} {xs : List V} (s : Same H H') (h : SqL K H a xs) : SqL K H' a xs := by
  rcases h with (h | ⟨o, h⟩) | h
  · exact .inl (.inl (s _ _ h))
  · exact .inl (.inr ⟨o, s _ _ h⟩)
  · exact .inr h
section
variable {P : Program} {w : World} {K : PySem.W.Frag} {mg : Str → Option Value} {base : Heap} {t8 t6 tR tL : Tok}
end
end K02
namespace K02
open PySem L2
section
variable {P : Program} {w : World} {K : PySem.W.Frag} {mg : Str → Option Value} {base : Heap} {t8 t6 tR tL : Tok}
end
end K02
namespace K02
open PySem L2
section
variable {P : Program} {w : World} {K : PySem.W.Frag} {mg : Str → Option Value} {base : Heap} {t8 t6 tR tL : Tok}
end
end K02
namespace K02
open PySem L2
noncomputable def rowOf : Da → Row
  | .tup [.str z, .int j] => (z, j)
  | _ => (⟨#[]⟩, 0)
noncomputable def pairsH (h : House) : List (Str × Str) := (rowsH h).map fun r => (r.1, h.name)
noncomputable def pairsOf (hs : List House) : List (Str × Str) := hs.flatMap pairsH
theorem pairsH_fst (h : House) : (pairsH h).map Prod.fst = namesH h := by unfold pairsH namesH; rw [List.map_map]; rfl
theorem pairsOf_fst (hs : List House) : (pairsOf hs).map Prod.fst = namesOf hs := by
  unfold pairsOf namesOf
  rw [List.map_flatMap]
  congr 1
  funext h
  exact pairsH_fst h
section
variable {P : Program} {w : World} {K : PySem.W.Frag} {mg : Str → Option Value} {base : Heap} {t8 t6 tR tL : Tok}
end
end K02
namespace K02
open PySem L2
section
variable {P : Program} {w : World} {K : PySem.W.Frag} {mg : Str → Option Value} {base : Heap} {t8 t6 tR tL : Tok}
end
end K02
namespace K02
open PySem L2
open Builtin.Int in
theorem oMulB {X : Cx} : OpR X (binaryOp .Mult) (fIc IntMulOk fun i j => .int (i * j)) := (opI fun _ _ _ _ _ _ _ hc q => PyProof.Rows.mul_int q hc : OpR X (binaryOp .Mult) (rI IntMulOk fun i j => .int (i * j))).fIc
noncomputable def Bits (n : Int) : Prop := Builtin.Int.intBits n ≤ 1048576
noncomputable def spMixed : Sp := fun vs H Q _ => ∃ c : Int, vs = [.int c] ∧ Builtin.Int.intBits c ≤ 2000000 ∧ ∀ n : Int, 0 ≤ n → Q (.int n) H
noncomputable def PackAt (H : Hp) (p : Addr) : Prop := ∃ n : Int, H p = some (.lst [.int n]) ∧ 0 ≤ n
noncomputable def spPack (K : PySem.W.Frag) : Sp := fun vs H Q _ => ∃ (a : Addr) (ns : List Int) (k : Int), vs = [.ref a, .int k] ∧ SqL K H a (ns.map V.int) ∧ (∀ n ∈ ns, Bits n) ∧ ns.length ≤ 63 ∧ 0 ≤ k ∧ k ≤ 1000 ∧ ∀ (p : Addr) (H' : Hp), H p = none → PackAt H' p → Same H H' → Q (.ref p) H'
noncomputable def spTake : Sp := fun vs H Q _ => ∃ (p : Addr) (m : Int), vs = [.ref p, .int m] ∧ PackAt H p ∧ 0 < m ∧ m < 1073741824 ∧ ∀ (d : Int) (H' : Hp), 0 ≤ d → d < m → PackAt H' p → SameB p H H' → Q (.int d) H'
section
variable {P : Program} {w : World} {K : PySem.W.Frag} {mg : Str → Option Value} {base : Heap} {t8 t6 tR tL : Tok}
end
end K02
namespace K02
open PySem L2
noncomputable def abcL : List Nat := (List.range 26).map (97 + ·)
noncomputable def rot (t : Nat) : List Nat := abcL.drop t ++ abcL.take t
noncomputable def nameL (t sz pick k : Nat) : List Nat :=
  if pick = 0 then List.replicate (1 + k % 8) ((rot t).getD (k / 8) 0) else if pick = 1 then (rot t).getD (k % 26) 0 :: ((rot t).drop 4).take sz else ((rot t).drop 4).take sz ++ [(rot t).getD (k % 26) 0]
noncomputable def okNames (l : List (List Nat)) : Bool := decide l.Nodup && l.all fun s => decide (1 ≤ s.length) && decide (s.length ≤ 8) && s.all low
noncomputable def qL : List Nat := [113, 113, 113, 113, 113, 113, 113, 114]
noncomputable def qS : Str := ⟨qL.toArray⟩
theorem names_checkQ : ((List.range 26).all fun t => (List.range 8).all fun sz => (List.range 3).all fun pick => (List.range 12).all fun k => !decide (nameL t sz pick k = qL)) = true := by decide +kernel
theorem names_check : ((List.range 26).all fun t => (List.range 8).all fun sz => (List.range 3).all fun pick => okNames ((List.range 12).map (nameL t sz pick))) = true := by decide +kernel
noncomputable def nameS (t sz pick k : Nat) : Str := ⟨(nameL t sz pick k).toArray⟩
noncomputable def namesL (t sz pick : Nat) : List Str := (List.range 12).map (nameS t sz pick)
theorem namesL_ok {t sz pick : Nat} (ht : t < 26) (hz : sz < 8) (hp : pick < 3) : (namesL t sz pick).Nodup ∧ ∀ s ∈ namesL t sz pick, Good s := by
  have h := List.all_eq_true.mp (List.all_eq_true.mp (List.all_eq_true.mp names_check t (List.mem_range.mpr ht)) sz (List.mem_range.mpr hz)) pick (List.mem_range.mpr hp)
  unfold okNames at h
  obtain ⟨h1, h2⟩ := Bool.and_eq_true_iff.mp h
  have h1' := of_decide_eq_true h1
  constructor
  · unfold namesL
    rw [List.nodup_iff_pairwise_ne, List.pairwise_map] at h1' ⊢
    refine h1'.imp fun {a b} z e => z ?_
    have := congrArg (fun s : Str => s.cps.toList) e
    simpa [nameS] using this
  · intro s hs
    obtain ⟨k, hk, rfl⟩ := List.mem_map.mp hs
    have h3 := List.all_eq_true.mp h2 (nameL t sz pick k) (List.mem_map.mpr ⟨k, hk, rfl⟩)
    obtain ⟨h4, h5⟩ := Bool.and_eq_true_iff.mp h3
    obtain ⟨h6, h7⟩ := Bool.and_eq_true_iff.mp h4
    refine ⟨?_, ?_, fun c hc => List.all_eq_true.mp h5 c (by simpa [nameS] using hc)⟩
    · have := of_decide_eq_true h6; simpa [nameS, Str.length] using this
    · have := of_decide_eq_true h7; simpa [nameS, Str.length] using this
theorem namesL_q {t sz pick : Nat} (ht : t < 26) (hz : sz < 8) (hp : pick < 3) : ∀ s ∈ namesL t sz pick, s ≠ qS := by
  intro s hs e
  obtain ⟨k, hk, rfl⟩ := List.mem_map.mp hs
  have h := List.all_eq_true.mp (List.all_eq_true.mp (List.all_eq_true.mp (List.all_eq_true.mp names_checkQ t (List.mem_range.mpr ht)) sz (List.mem_range.mpr hz)) pick (List.mem_range.mpr hp)) k hk
  have := congrArg (fun s : Str => s.cps.toList) e
  have e2 : nameL t sz pick k = qL := by simpa [nameS, qS] using this
  rw [e2] at h
  exact absurd h (by decide)
noncomputable def abc : Str := "abcdefghijklmnopqrstuvwxyz"
theorem abc_eq : abc.cps.toList = abcL := by decide +kernel
theorem rot_len {t : Nat} (h : t ≤ 26) : (rot t).length = 26 := by
  unfold rot
  rw [List.length_append, List.length_drop, List.length_take, show abcL.length = 26 by decide]
  omega
theorem abc_len : abc.length = 26 := by decide +kernel
theorem rot_text {t : Nat} (ht : t ≤ 26) : (PySem.Txt.slice abc (some (t : Int)) none ++ PySem.Txt.slice abc none (some (t : Int))).cps.toList = rot t := by
  rw [app_list, slice_to, slice_eq]
  unfold cutS rot
  rw [HT.sIx_nat, HT.sIx_none, abc_len, abc_eq, Nat.min_eq_left ht, List.take_of_length_le (by rw [List.length_drop, show abcL.length = 26 by decide]; omega)]
theorem atI_getD {l : List Nat} {k : Int} (h0 : 0 ≤ k) (h1 : k < l.length) : atI l k = some (l.getD k.toNat 0) := by
  obtain ⟨n, rfl⟩ := Int.eq_ofNat_of_zero_le h0
  refine atI_nat ?_
  have hn : n < l.length := by omega
  rw [List.getElem?_eq_getElem hn]
  simp [List.getD, hn]
noncomputable def spNames : Sp := fun vs H Q _ => ∃ (p : Addr), vs = [.ref p, .int 12] ∧ PackAt H p ∧ ∀ (l : Addr) (ss : List Str) (H' : Hp), H l = none → H' l = some (.lst (ss.map V.str)) → ss.length = 12 → ss.Nodup → (∀ s ∈ ss, Good s) → (∀ s ∈ ss, s ≠ qS) → PackAt H' p → SameB p H H' → Q (.ref l) H'
section
variable {P : Program} {w : World} {K : PySem.W.Frag} {mg : Str → Option Value} {base : Heap} {t8 t6 tR tL : Tok}
end
end K02
namespace K02
open PySem L2
noncomputable def rowD (r : Row) : PyData := .tuple [.str r.1, .int r.2]
noncomputable def rowsD (rs : List Row) : PyData := .list (rs.map rowD)
theorem Good.ok {z : Str} (g : Good z) : PyData.strOk z = true := by
  unfold PyData.strOk
  rw [Array.all_eq_true_iff_forall_mem]
  intro c hc
  have h := g.all c (by simpa using hc)
  unfold low at h
  have h2 := of_decide_eq_true (Bool.and_eq_true_iff.mp h).2
  exact decide_eq_true (by omega)
theorem rows_shaped : ∀ {rs : List Row}, (∀ r ∈ rs, Good r.1) → SeqAt.shaped (rowsD rs) = true := by
  intro rs h
  have h1 : PyData.canLayAll0 (rs.map rowD) = true := by
    induction rs with
    | nil => rfl
    | cons r rs ih =>
      rw [List.map_cons]
      unfold PyData.canLayAll0
      rw [ih fun q hq => h q (List.mem_cons_of_mem _ hq), Bool.and_true]
      unfold rowD PyData.canLay0 PyData.canLayAll0
      have z := (h r List.mem_cons_self).ok
      simp [PyData.canLay0, PyData.canLayAll0, z]
  have h2 : PyData.depthAll (rs.map rowD) ≤ 1 := by
    clear h h1
    induction rs with
    | nil => exact Nat.zero_le _
    | cons r rs ih =>
      rw [List.map_cons]
      unfold PyData.depthAll
      have e : PyData.depth (rowD r) = 1 := by simp [rowD, PyData.depth, PyData.depthAll]
      rw [e]
      omega
  unfold SeqAt.shaped rowsD
  rw [Bool.and_eq_true]
  refine ⟨?_, ?_⟩
  · unfold PyData.canLay0; exact h1
  · unfold PyData.depth; exact decide_eq_true (by omega)
theorem rows_dp {K : PySem.W.Frag} {H : Hp} {a : Addr} {vs : List V} {rs : List Row} (ha : H a = some (.lst vs)) (p : Paired (RowAt H) vs rs) : Dp K H (.ref a) (rowsD rs) := by
  refine .lst (SqL.of ha) ?_
  clear ha
  induction p with
  | nil => exact .nil
  | cons h _ ih =>
    obtain ⟨b, rfl, hb⟩ := h
    exact .cons (.tup (SqT.of hb) (.cons (.str _) (.cons (.int _) .nil))) ih
theorem rows_eqv (rs : List Row) : PyData.eqv (rowsD rs) (.list []) = rs.isEmpty := by
  cases rs with
  | nil => simp [rowsD, PyData.eqv, PyData.eqvAll]
  | cons r rs => simp [rowsD, PyData.eqv, PyData.eqvAll]
structure NeNil (K : PySem.W.Frag) (x y : V) (H : Hp) (Q : VK) : Prop where
  h : rNeD K x y H Q
theorem oNeNil {X : Cx} (hu : X.A.units + 64 < cLine) : OpR X (compareOp .NotEq) (NeNil X.K) := fun pins s σ H x y v u Q I rx ry h => op_neD hu pins s σ H x y v u Q I rx ry h.h
theorem neNil {K : PySem.W.Frag} {H : Hp} {a l : Addr} {vs : List V} {rs : List Row} {Q : VK} (ha : H a = some (.lst vs)) (p : Paired (RowAt H) vs rs) (g : ∀ r ∈ rs, Good r.1) (hl : H l = some (.lst [])) (q : Q (.bl (!rs.isEmpty)) H) : NeNil K (.ref a) (.ref l) H Q :=
  ⟨rowsD rs, .list [], rows_dp ha p, .lst (SqL.of hl) .nil, rows_shaped g, rfl, by rw [rows_eqv]; exact q⟩
theorem atI_last {α : Type} {xs : List α} {x : α} : atI (xs ++ [x]) (-1) = some x := by
  unfold atI ixN
  have e : (xs ++ [x]).length = xs.length + 1 := by simp
  rw [e, if_neg (by decide), if_pos (by omega)]
  have e2 : ((-1 : Int) + ((xs.length + 1 : Nat) : Int)).toNat = xs.length := by omega
  rw [e2]
  simp
structure HS (H0 : Hp) (p R D : Addr) (ss : List Str) (room : Int) (H : Hp) (vr : List V) (kvs : List (Key × V)) (runs : List (List Row)) (m : Nat) : Prop where
  pack : PackAt H p
  same : SameB p H0 H
  hR : H R = some (.lst vr)
  pR : Paired (RunAt H) vr runs
  hD : H D = some (.dK kvs)
  keys : kvs.map (·.1) = (ss.take m).map Sum.inr
  vals : ∀ n ∈ ss.take m, ∃ i : Int, valV kvs (.inr n) = some (.int i)
  le : m ≤ ss.length
  rm : (m : Int) ≤ room ∨ m = 0
  good : ∀ r ∈ runs, GoodRun r
theorem SameB.tups {p : Addr} {H H' : Hp} (hp : PackAt H p) (s : SameB p H H') : Tups H H' := fun b xs e => s b _ (fun z => by obtain ⟨n, e', _⟩ := hp; rw [z, e'] at e; cases e) e
section
variable {H0 H H' : Hp} {p R D : Addr} {ss : List Str} {room : Int} {vr : List V} {kvs : List (Key × V)} {runs : List (List Row)} {m : Nat}
theorem HS.step (h : HS H0 p R D ss room H vr kvs runs m) (nR : R ≠ p) (nD : D ≠ p) (pk : PackAt H' p) (s : SameB p H H') : HS H0 p R D ss room H' vr kvs runs m :=
  ⟨pk, h.same.trans s, s _ _ nR h.hR, paired_mono (fun _ _ z => z.ts (SameB.tups h.pack s)) h.pR, s _ _ nD h.hD, h.keys, h.vals, h.le, h.rm, h.good⟩
theorem PackAt.new {q : Addr} {o : HO} (h : PackAt H p) (hq : H q = none) : PackAt (upd H q o) p := by
  obtain ⟨n, e, n0⟩ := h
  exact ⟨n, by rw [upd_ne (ne_of_none e hq)]; exact e, n0⟩
theorem PackAt.put {q : Addr} {o : HO} (h : PackAt H p) (hq : q ≠ p) : PackAt (upd H q o) p := by
  obtain ⟨n, e, n0⟩ := h
  exact ⟨n, by rw [upd_ne (Ne.symm hq)]; exact e, n0⟩
theorem HS.new {q : Addr} {o : HO} (h : HS H0 p R D ss room H vr kvs runs m) (nR : R ≠ p) (nD : D ≠ p) (hq : H q = none) : HS H0 p R D ss room (upd H q o) vr kvs runs m :=
  h.step nR nD (h.pack.new hq) ((SameB.of (Same.refl H)).new hq)
theorem putK_new {kvs : List (Key × V)} {k : Key} {v : V} (h : k ∉ kvs.map (·.1)) : putK kvs k v = kvs ++ [(k, v)] := by
  unfold putK
  rw [if_neg]
  intro z
  obtain ⟨x, hx, e⟩ := List.any_eq_true.mp z
  exact h (List.mem_map.mpr ⟨x, hx, of_decide_eq_true e⟩)
theorem take_get {n : Str} (hm : ss[m]? = some n) : ss.take (m + 1) = ss.take m ++ [n] := by rw [List.take_add_one, hm]; rfl
theorem get_fresh {n : Str} (nd : ss.Nodup) (hm : ss[m]? = some n) : n ∉ ss.take m := fun z => by
  obtain ⟨j, hj, ej⟩ := List.mem_iff_getElem.mp z
  obtain ⟨hl, el⟩ := List.getElem?_eq_some_iff.mp hm
  rw [List.length_take] at hj
  rw [List.getElem_take] at ej
  have := (List.getElem_inj (i := j) (j := m) (h₀ := by omega) (h₁ := hl) nd).mp (ej.trans el.symm)
  omega
theorem HS.put {L tp : Addr} {vl : List V} {rs : List Row} {n : Str} {mo rd : Int} (h : HS H0 p R D ss room H vr kvs runs m) (nR : R ≠ p) (nD : D ≠ p) (nRD : R ≠ D) (nL : L ≠ p) (nLR : L ≠ R) (nLD : L ≠ D) (f0 : H0 D = none) (fL : H0 L = none)
    (nd : ss.Nodup) (hm : ss[m]? = some n) (hr : (m : Int) < room) (hL : H L = some (.lst vl)) (pl : Paired (RowAt H) vl rs) (ht : upd H D (.dK (putK kvs (.inr n) (.int mo))) tp = none) :
    HS H0 p R D ss room (upd (upd (upd H D (.dK (putK kvs (.inr n) (.int mo)))) tp (.tup [.str n, .int rd])) L (.lst (vl ++ [.ref tp]))) vr (putK kvs (.inr n) (.int mo)) runs (m + 1) ∧
    Paired (RowAt (upd (upd (upd H D (.dK (putK kvs (.inr n) (.int mo)))) tp (.tup [.str n, .int rd])) L (.lst (vl ++ [.ref tp])))) (vl ++ [.ref tp]) (rs ++ [(n, rd)]) := by
  have t1 : Tups H (upd H D (.dK (putK kvs (.inr n) (.int mo)))) := (Tups.refl H).put h.hD (fun _ z => nomatch z)
  have t2 : Tups H (upd (upd H D (.dK (putK kvs (.inr n) (.int mo)))) tp (.tup [.str n, .int rd])) := t1.new ht
  have hL1 : upd H D (.dK (putK kvs (.inr n) (.int mo))) L = some (.lst vl) := by rw [upd_ne nLD]; exact hL
  have nLt : L ≠ tp := ne_of_none hL1 ht
  have hL2 : upd (upd H D (.dK (putK kvs (.inr n) (.int mo)))) tp (.tup [.str n, .int rd]) L = some (.lst vl) := by rw [upd_ne nLt]; exact hL1
  have t3 := t2.put (o := .lst (vl ++ [.ref tp])) hL2 (fun _ z => nomatch z)
  have hle : m < ss.length := (List.getElem?_eq_some_iff.mp hm).1
  have nkey : (Sum.inr n : Key) ∉ kvs.map (·.1) := fun z => by
    rw [h.keys] at z
    obtain ⟨y, hy, e⟩ := List.mem_map.mp z
    exact get_fresh nd hm (by rw [← Sum.inr.inj e]; exact hy)
  refine ⟨⟨((h.pack.put nD).new ht).put nL, ?_, ?_, paired_mono (fun _ _ z => z.ts t3) h.pR, ?_, ?_, ?_, hle, .inl (by omega), h.good⟩, ?_⟩
  · intro b o hb e
    have n1 : b ≠ D := ne_of_none e f0
    have n2 : b ≠ L := ne_of_none e fL
    have e1 : upd H D (.dK (putK kvs (.inr n) (.int mo))) b = some o := by rw [upd_ne n1]; exact h.same b o hb e
    rw [upd_ne n2, upd_ne (ne_of_none e1 ht)]
    exact e1
  · have e1 : upd H D (.dK (putK kvs (.inr n) (.int mo))) R = some (.lst vr) := by rw [upd_ne nRD]; exact h.hR
    rw [upd_ne (Ne.symm nLR), upd_ne (ne_of_none e1 ht)]
    exact e1
  · have e1 : upd H D (.dK (putK kvs (.inr n) (.int mo))) D = some (.dK (putK kvs (.inr n) (.int mo))) := upd_same
    rw [upd_ne (Ne.symm nLD), upd_ne (ne_of_none e1 ht)]
    exact e1
  · rw [putK_new nkey, List.map_append, h.keys, take_get hm, List.map_append]; rfl
  · intro x hx
    rw [take_get hm] at hx
    rw [valV_put]
    by_cases e : (Sum.inr x : Key) = Sum.inr n
    · exact ⟨mo, if_pos e⟩
    · rw [if_neg e]
      rcases List.mem_append.mp hx with z | z
      · exact h.vals x z
      · exact absurd (by rw [List.mem_singleton.mp z]) e
  · refine paired_app (paired_mono (fun _ _ z => z.ts t3) pl) (.cons ⟨tp, rfl, ?_⟩ .nil)
    rw [upd_ne (Ne.symm nLt), upd_same]
end
theorem rise_snoc {rs : List Row} {n : Str} {rd : Int} (h : (rs.map Prod.snd).Pairwise (· < ·)) (g : ∀ r ∈ rs, r.2 < rd) : ((rs ++ [(n, rd)]).map Prod.snd).Pairwise (· < ·) := by
  rw [List.map_append, List.pairwise_append]
  refine ⟨h, List.pairwise_singleton _ _, fun a ha b hb => ?_⟩
  obtain ⟨r, hr, rfl⟩ := List.mem_map.mp ha
  have e : b = rd := by simpa using hb
  rw [e]; exact g r hr
theorem menu4 {a b c e d : Int} (h0 : 0 ≤ d) (h4 : d < 4) (ha : 0 ≤ a ∧ a ≤ 300) (hb : 0 ≤ b ∧ b ≤ 300) (hc : 0 ≤ c ∧ c ≤ 300) (he : 0 ≤ e ∧ e ≤ 300) : ∃ w : Int, atI [V.int a, .int b, .int c, .int e] d = some (.int w) ∧ 0 ≤ w ∧ w ≤ 300 := by
  obtain ⟨n, rfl⟩ := Int.eq_ofNat_of_zero_le h0
  match n, h4 with
  | 0, _ => exact ⟨a, rfl, ha⟩
  | 1, _ => exact ⟨b, rfl, hb⟩
  | 2, _ => exact ⟨c, rfl, hc⟩
  | 3, _ => exact ⟨e, rfl, he⟩
  | n + 4, h => exact absurd h (by omega)
noncomputable def spMkHouse : Sp := fun vs H Q _ => ∃ (p : Addr) (nm : Str) (ln : Addr) (ss : List Str) (room : Int), vs = [.ref p, .str nm, .ref ln, .int room] ∧ PackAt H p ∧ Good nm ∧ H ln = some (.lst (ss.map V.str)) ∧ ss.length ≤ 12 ∧ ss.Nodup ∧ (∀ s ∈ ss, Good s) ∧
  ∀ (r d : Addr) (hv : V) (h : House) (kvs : List (Key × V)) (m : Nat) (H' : Hp), H r = none → H d = none → H' r = some (.tup [hv, .ref d]) → HouseAt H' hv h → GoodHouse h → h.name = nm → namesH h = ss.take m → m ≤ ss.length → ((m : Int) ≤ room ∨ m = 0) →
    H' d = some (.dK kvs) → kvs.map (·.1) = (ss.take m).map Sum.inr → (∀ n ∈ ss.take m, ∃ i : Int, valV kvs (.inr n) = some (.int i)) → PackAt H' p → SameB p H H' → Q (.ref r) H'
noncomputable def NvR (p ln R D L : Addr) (nm : Str) (room low wide drift ofv mo : Int) (m : Nat) (x11 x14 : V) (H : Hp) (ss : List Str) (vr vl : List V) (kvs : List (Key × V)) (runs : List (List Row)) (rs : List Row) (F : Int → Prop) : St → Hp → Prop := fun σ' H' => ∃ rd : Int, σ' = [some (.ref p), some (.str nm), some (.ref ln), some (.int room), some (.int low), some (.int wide), some (.int drift), some (.int mo), some (.ref R), some (.ref D), some (.int (m : Int)), some x11, some (.int (low + ofv)), some (.ref L), some x14, some (.int rd)] ∧ HS H p R D ss room H' vr kvs runs m ∧ H' L = some (.lst vl) ∧ Paired (RowAt H') vl rs ∧ F rd
noncomputable def PvA (p ln R D : Addr) (nm : Str) (room low wide drift : Int) (H : Hp) (ss : List Str) : Nat → St → Hp → Prop := fun i σ H' => ∃ (mo : Int) (m : Nat) (vr : List V) (kvs : List (Key × V)) (runs : List (List Row)) (o11 o12 o13 o14 o15 : Option V), σ = [some (.ref p), some (.str nm), some (.ref ln), some (.int room), some (.int low), some (.int wide), some (.int drift), some (.int mo), some (.ref R), some (.ref D), some (.int (m : Int)), o11, o12, o13, o14, o15] ∧ HS H p R D ss room H' vr kvs runs m ∧ runs.flatten.map Prod.fst = ss.take m ∧ runs.length ≤ i
noncomputable def PvB (p ln R D L : Addr) (nm : Str) (room low wide drift ofv : Int) (H : Hp) (ss : List Str) (i : Nat) (vr : List V) (runs : List (List Row)) : Nat → St → Hp → Prop := fun j σ H'' => ∃ (mo : Int) (m : Nat) (kvs : List (Key × V)) (vl : List V) (rs : List Row) (o14 o15 : Option V), σ = [some (.ref p), some (.str nm), some (.ref ln), some (.int room), some (.int low), some (.int wide), some (.int drift), some (.int mo), some (.ref R), some (.ref D), some (.int (m : Int)), some (.int (0 + (i : Int))), some (.int (low + ofv)), some (.ref L), o14, o15] ∧ HS H p R D ss room H'' vr kvs runs m ∧ H'' L = some (.lst vl) ∧ Paired (RowAt H'') vl rs ∧ (runs.flatten ++ rs).map Prod.fst = ss.take m ∧ rs.length ≤ j ∧ (rs.map Prod.snd).Pairwise (· < ·)
section
variable {P : Program} {w : World} {K : PySem.W.Frag} {mg : Str → Option Value} {base : Heap} {t8 t6 tR tL : Tok}
end
end K02
namespace K02
open PySem L2
theorem oNeS {X : Cx} : OpR X (compareOp .NotEq) (fS fun i j => .bl (!decide (i = j))) := by
  intro pins s σ H x y v u Q I rx ry q
  refine op_ne pins s σ H x y v u Q I rx ry ?_
  cases x <;> cases y <;> first
    | exact (show False from q).elim
    | (refine ⟨rfl, ?_⟩
       rename_i i j
       have e : decide (V.str i = V.str j) = decide (i = j) := by rw [Bool.eq_iff_iff]; simp
       rw [e]; exact q)
theorem mem_putK {κ : Type} [DecidableEq κ] {kvs : List (κ × V)} {k : κ} {v : V} {x : κ × V} (h : x ∈ putK kvs k v) : x = (k, v) ∨ x ∈ kvs := by
  unfold putK at h
  split at h
  · obtain ⟨y, hy, e⟩ := List.mem_map.mp h
    split at e
    · rename_i c
      exact .inl (by rw [← e, c])
    · exact .inr (by rw [← e]; exact hy)
  · rcases List.mem_append.mp h with z | z
    · exact .inr z
    · exact .inl (List.mem_singleton.mp z)
theorem valV_mem {κ : Type} [DecidableEq κ] {kvs : List (κ × V)} {k : κ} (h : k ∈ kvs.map (·.1)) : ∃ v, valV kvs k = some v ∧ (k, v) ∈ kvs := by
  induction kvs with
  | nil => simp at h
  | cons x r ih =>
    by_cases e : x.1 = k
    · refine ⟨x.2, valV_pos e, ?_⟩
      rw [← e]; exact List.mem_cons_self
    · rw [List.map_cons] at h
      rcases List.mem_cons.mp h with z | z
      · exact absurd z.symm e
      · obtain ⟨v, h1, h2⟩ := ih z
        exact ⟨v, by rw [valV_neg e]; exact h1, List.mem_cons_of_mem _ h2⟩
noncomputable def OwnsL (kvs : List (Key × V)) (ps : List (Str × Str)) : Prop := ∀ p ∈ ps, valV kvs (.inr p.1) = some (.str p.2)
theorem OwnsL.put {kvs : List (Key × V)} {ps : List (Str × Str)} {p : Str × Str} (h : OwnsL kvs ps) (n : ∀ q ∈ ps, q.1 ≠ p.1) : OwnsL (putK kvs (.inr p.1) (.str p.2)) (ps ++ [p]) := fun q hq => by
  rw [valV_put]
  rcases List.mem_append.mp hq with z | z
  · rw [if_neg (fun e => n q z (Sum.inr.inj e))]; exact h q z
  · rw [List.mem_singleton.mp z, if_pos rfl]
noncomputable def FoundOk (hs : List House) (H : Hp) (kf : List (List Key × V)) : Prop := ∀ kv ∈ kf, ∃ l : Letter, kv.1 = kP l.1 ∧ LetterAt H kv.2 l ∧ GoodLetter hs l
theorem FoundOk.keys {hs : List House} {H : Hp} : ∀ {kf : List (List Key × V)}, FoundOk hs H kf → ∃ ks : List (Str × Str), kf.map (·.1) = ks.map kP ∧ ks.length = kf.length
  | [], _ => ⟨[], rfl, rfl⟩
  | kv :: r, h => by
    obtain ⟨l, e, _⟩ := h kv List.mem_cons_self
    obtain ⟨ks, e2, e3⟩ := FoundOk.keys (kf := r) fun x hx => h x (List.mem_cons_of_mem _ hx)
    exact ⟨l.1 :: ks, by rw [List.map_cons, List.map_cons, e, e2], by simp [e3]⟩
noncomputable def pairsR (nm : Str) (r : List Row) : List (Str × Str) := r.map fun x => (x.1, nm)
theorem pairsH_flat (h : House) : pairsH h = h.runs.flatMap (pairsR h.name) := by
  unfold pairsH rowsH pairsR
  rw [List.map_flatten, List.flatMap_def]
theorem owner_of {hs : List House} {kvs : List (Key × V)} {n : Str} (ow : OwnsL kvs (pairsOf hs)) (h : n ∈ namesOf hs) : ∃ hh ∈ hs, n ∈ namesH hh ∧ valV kvs (.inr n) = some (.str hh.name) := by
  obtain ⟨hh, m, hn⟩ := List.mem_flatMap.mp h
  refine ⟨hh, m, hn, ow (n, hh.name) (List.mem_flatMap.mpr ⟨hh, m, ?_⟩)⟩
  obtain ⟨r, hr, er⟩ := List.mem_map.mp hn
  exact List.mem_map.mpr ⟨r, hr, by rw [er]⟩
theorem names_good {hs : List House} (g : ∀ h ∈ hs, GoodHouse h) {n : Str} (h : n ∈ namesOf hs) : Good n := by
  obtain ⟨hh, m, hn⟩ := List.mem_flatMap.mp h
  obtain ⟨r, hr, er⟩ := List.mem_map.mp hn
  obtain ⟨run, hrun, hr2⟩ := List.mem_flatten.mp hr
  rw [← er]
  exact ((g hh m).runs run hrun).names r hr2
noncomputable def spMkLetters : Sp := fun vs H Q _ => ∃ (p lh dh : Addr) (vh : List V) (hs : List House) (kvs : List (Key × V)), vs = [.ref p, .ref lh, .ref dh] ∧ PackAt H p ∧ H lh = some (.lst vh) ∧ Paired (HouseAt H) vh hs ∧ hs.length ≤ 6 ∧ (∀ h ∈ hs, GoodHouse h) ∧ (namesOf hs).Nodup ∧ (namesOf hs).length ≤ 24 ∧
  H dh = some (.dK kvs) ∧ kvs.map (·.1) = (namesOf hs).map Sum.inr ∧ (∀ n ∈ namesOf hs, ∃ i : Int, valV kvs (.inr n) = some (.int i)) ∧
  ∀ (x : V) (ls : List Letter) (H' : Hp), LettersAt H' x ls → GoodLetters hs ls → PackAt H' p → SameB p H H' → Q x H'
noncomputable def PvC (p lh dh O : Addr) (hs : List House) (H : Hp) : Nat → St → Hp → Prop := fun i σ H' => ∃ (kv : List (Key × V)) (o4 o5 o6 o7 : Option V), σ = [some (.ref p), some (.ref lh), some (.ref dh), some (.ref O), o4, o5, o6, o7, none, none, none, none, none, none, none, none] ∧ H' O = some (.dK kv) ∧ OwnsL kv (pairsOf (hs.take i)) ∧ kv.length ≤ (pairsOf (hs.take i)).length ∧ Same H H'
noncomputable def PvD (p lh dh O a : Addr) (hs : List House) (hh : House) (i : Nat) (H : Hp) : Nat → St → Hp → Prop := fun j σ H' => ∃ (kv : List (Key × V)) (o5 o6 o7 : Option V), σ = [some (.ref p), some (.ref lh), some (.ref dh), some (.ref O), some (.ref a), o5, o6, o7, none, none, none, none, none, none, none, none] ∧ H' O = some (.dK kv) ∧ OwnsL kv (pairsOf (hs.take i) ++ (hh.runs.take j).flatMap (pairsR hh.name)) ∧ kv.length ≤ (pairsOf (hs.take i) ++ (hh.runs.take j).flatMap (pairsR hh.name)).length ∧ Same H H'
noncomputable def PvE (p lh dh O a c2 : Addr) (hs : List House) (hh : House) (i j : Nat) (r : List Row) (H : Hp) : Nat → St → Hp → Prop := fun t σ H' => ∃ (kv : List (Key × V)) (o6 o7 : Option V), σ = [some (.ref p), some (.ref lh), some (.ref dh), some (.ref O), some (.ref a), some (.ref c2), o6, o7, none, none, none, none, none, none, none, none] ∧ H' O = some (.dK kv) ∧ OwnsL kv (pairsOf (hs.take i) ++ (hh.runs.take j).flatMap (pairsR hh.name) ++ (pairsR hh.name r).take t) ∧ kv.length ≤ (pairsOf (hs.take i) ++ (hh.runs.take j).flatMap (pairsR hh.name) ++ (pairsR hh.name r).take t).length ∧ Same H H'
noncomputable def PvF (p lh dh O l8 F : Addr) (hs : List House) (H2 : Hp) : Nat → St → Hp → Prop := fun i σ H' => ∃ (kf : List (List Key × V)) (o4 o5 o6 o7 o10 o11 o12 o13 o14 o15 : Option V), σ = [some (.ref p), some (.ref lh), some (.ref dh), some (.ref O), o4, o5, o6, o7, some (.ref l8), some (.ref F), o10, o11, o12, o13, o14, o15] ∧ PackAt H' p ∧ SameB p H2 H' ∧ H' F = some (.dT kf) ∧ kf.length ≤ i ∧ FoundOk hs H' kf
section
variable {P : Program} {w : World} {K : PySem.W.Frag} {mg : Str → Option Value} {base : Heap} {t8 t6 tR tL : Tok}
end
end K02
namespace K02
open PySem L2
noncomputable def nmL : List Str := ["me", "you", "abcdefgh", "z"]
theorem nm_good : ∀ s ∈ nmL, Good s := by
  have h : nmL.all (fun s => decide (1 ≤ s.length) && decide (s.length ≤ 8) && s.cps.toList.all low) = true := by decide +kernel
  intro s hs
  obtain ⟨h1, h2⟩ := Bool.and_eq_true_iff.mp (List.all_eq_true.mp h s hs)
  obtain ⟨h3, h4⟩ := Bool.and_eq_true_iff.mp h1
  exact ⟨of_decide_eq_true h3, of_decide_eq_true h4, fun c hc => List.all_eq_true.mp h2 c hc⟩
theorem nm_nodup : nmL.Nodup := by decide +kernel
theorem same_new {p : Addr} {H Ha Hb : Hp} (s : Same H Ha) (n : H p = none) (b : SameB p Ha Hb) : Same H Hb := fun c o e => b c o (fun z => by rw [z, n] at e; cases e) (s c o e)
theorem mergeK_app : ∀ (more kvs : List (Key × V)), (more.map (·.1)).Nodup → (∀ k ∈ more.map (·.1), k ∉ kvs.map (·.1)) → mergeK kvs more = kvs ++ more
  | [], kvs, _, _ => by rw [List.append_nil]; rfl
  | x :: r, kvs, nd, dj => by
    rw [List.map_cons] at nd dj
    have nd' := List.nodup_cons.mp nd
    show mergeK (putK kvs x.1 x.2) r = _
    rw [putK_new (dj x.1 List.mem_cons_self), mergeK_app r _ nd'.2, List.append_assoc]
    · rfl
    · intro k hk z
      rw [List.map_append] at z
      rcases List.mem_append.mp z with z | z
      · exact dj k (List.mem_cons_of_mem _ hk) z
      · have : k = x.1 := by simpa using z
        exact nd'.1 (by rw [← this]; exact hk)
theorem valV_app {kvs more : List (Key × V)} {k : Key} : valV (kvs ++ more) k = (valV kvs k).or (valV more k) := by
  unfold valV
  rw [List.find?_append]
  cases kvs.find? (fun kv => decide (kv.1 = k)) <;> rfl
theorem valV_none {kvs : List (Key × V)} {k : Key} (h : k ∉ kvs.map (·.1)) : valV kvs k = none := by
  cases e : valV kvs k with
  | none => rfl
  | some v => exact absurd (valV_in e) h
noncomputable def spRows : Sp := fun vs H Q _ => ∃ (x : V) (hs : List House) (ls : List Letter), vs = [x] ∧ LedgerAt H x hs ls ∧ GoodHouses hs ∧ ∀ (l : Addr) (ss : List Str) (H' : Hp), H' l = some (.lst (ss.map V.str)) → Same H H' → ss.Perm (namesOf hs) → PyProof.Rows.sortedS ss = true → Q (.ref l) H'
noncomputable def PvG (a hd ln lh dh : Addr) (k d4 : Int) (ss : List Str) (H3 : Hp) : Nat → St → Hp → Prop := fun i σ H' => ∃ (vh : List V) (hs : List House) (kvs : List (Key × V)) (m : Nat) (o8 o9 o10 o11 : Option V), σ = [some (.ref a), some (.int k), some (.ref hd), some (.ref ln), some (.int (1 + d4)), some (.ref lh), some (.ref dh), some (.int (10 - (m : Int))), o8, o9, o10, o11] ∧ H' lh = some (.lst vh) ∧ Paired (HouseAt H') vh hs ∧ H' dh = some (.dK kvs) ∧ kvs.map (·.1) = (namesOf hs).map Sum.inr ∧ (∀ n ∈ namesOf hs, ∃ i : Int, valV kvs (.inr n) = some (.int i)) ∧ namesOf hs = ss.take m ∧ m ≤ 10 ∧ hs.length = i ∧ hs.map House.name = nmL.take i ∧ (∀ h ∈ hs, GoodHouse h) ∧ Same H3 H'
section
variable {P : Program} {w : World} {K : PySem.W.Frag} {mg : Str → Option Value} {base : Heap} {t8 t6 tR tL : Tok}
end
end K02
namespace K02
open PySem L2
noncomputable def rowDa (r : Row) : Da := .tup [.str r.1, .int r.2]
noncomputable def runDa (rs : List Row) : Da := .tup (rs.map rowDa)
noncomputable def runsDa (rs : List (List Row)) : Da := .tup (rs.map runDa)
noncomputable def houseDa (h : House) : Da := .tup [.str h.name, .int h.low, .int h.high, .int h.drift, runsDa h.runs]
noncomputable def housesDa (hs : List House) : Da := .tup (hs.map houseDa)
noncomputable def mostDa : Option Int → Da
  | none => .non
  | some i => .int i
noncomputable def letterDa (l : Letter) : Da := .tup [.str l.1.1, .str l.1.2, .int l.2.1, mostDa l.2.2]
noncomputable def lettersDa (ls : List Letter) : Da := .tup (ls.map letterDa)
theorem Good.da {H : Hp} {z : Str} (g : Good z) : DaAt H (.str z) (.str z) := .str z (by have := g.hi; have sl0 : sizeLine = 16777216 := sizeLine_eq; omega)
theorem paired_da {α : Type} {H : Hp} {R : V → α → Prop} {f : α → Da} {vs : List V} {xs : List α} (p : Paired R vs xs) (h : ∀ v x, x ∈ xs → R v x → DaAt H v (f x)) : DaAs H vs (xs.map f) := by
  induction p with
  | nil => exact .nil
  | cons r _ ih => exact .cons (h _ _ (List.mem_cons_self ..) r) (ih fun v x hx => h v x (List.mem_cons_of_mem _ hx))
section
variable {H : Hp} {v : V}
theorem RowAt.da {r : Row} (h : RowAt H v r) (g : Good r.1) : DaAt H v (rowDa r) := by
  obtain ⟨a, rfl, e⟩ := h
  exact .tup e (show 2 ≤ 25 by decide) (.cons g.da (.cons (.int _) .nil))
theorem RunAt.da {r : List Row} (h : RunAt H v r) (g : GoodRun r) : DaAt H v (runDa r) := by
  obtain ⟨a, vs, rfl, e, p⟩ := h
  exact .tup e (by rw [p.length]; exact g.few) (paired_da p fun v x hx q => q.da (g.names x hx))
theorem RunsAt.da {rs : List (List Row)} (h : RunsAt H v rs) (few : rs.length ≤ 25) (g : ∀ r ∈ rs, GoodRun r) : DaAt H v (runsDa rs) := by
  obtain ⟨a, vs, rfl, e, p⟩ := h
  exact .tup e (by rw [p.length]; exact few) (paired_da p fun v x hx q => q.da (g x hx))
theorem HouseAt.da {h : House} (a : HouseAt H v h) (g : GoodHouse h) : DaAt H v (houseDa h) := by
  obtain ⟨a, b, rfl, e, p⟩ := a
  exact .tup e (show 5 ≤ 25 by decide) (.cons g.name.da (.cons (.int _) (.cons (.int _) (.cons (.int _) (.cons (p.da g.few g.runs) .nil)))))
theorem HousesAt.da {hs : List House} (a : HousesAt H v hs) (few : hs.length ≤ 25) (g : ∀ h ∈ hs, GoodHouse h) : DaAt H v (housesDa hs) := by
  obtain ⟨a, vs, rfl, e, p⟩ := a
  exact .tup e (by rw [p.length]; exact few) (paired_da p fun v x hx q => q.da (g x hx))
theorem most_da {m : Option Int} : DaAt H (mostV m) (mostDa m) := by
  cases m with
  | none => exact .non
  | some i => exact .int i
theorem LetterAt.da {l : Letter} (h : LetterAt H v l) (g1 : Good l.1.1) (g2 : Good l.1.2) : DaAt H v (letterDa l) := by
  obtain ⟨a, rfl, e⟩ := h
  exact .tup e (show 4 ≤ 25 by decide) (.cons g1.da (.cons g2.da (.cons (.int _) (.cons most_da .nil))))
theorem LettersAt.da {ls : List Letter} (h : LettersAt H v ls) (few : ls.length ≤ 25) (g : ∀ l ∈ ls, Good l.1.1 ∧ Good l.1.2) : DaAt H v (lettersDa ls) := by
  obtain ⟨a, vs, rfl, e, p⟩ := h
  exact .tup e (by rw [p.length]; exact few) (paired_da p fun v x hx q => q.da (g x hx).1 (g x hx).2)
end
theorem LedgerAt.da {H : Hp} {v : V} {hs : List House} {ls : List Letter} (h : LedgerAt H v hs ls) (gh : GoodHouses hs) (g : GoodLetters hs ls) : DaAt H v (.tup [housesDa hs, lettersDa ls]) := by
  obtain ⟨a, x, y, rfl, e, h1, h2⟩ := h
  exact .tup e (show 2 ≤ 25 by decide) (.cons (h1.da (by have := gh.hi; omega) gh.all) (.cons (h2.da (by have := g.few; omega) fun l hl => ⟨(g.all l hl).sent, (g.all l hl).taken⟩) .nil))
end K02
namespace K02
open PySem L2
structure TD (te : TE) (σ : St) (H : Hp) (d : Da) : Prop where
  r : ∀ H1, Same H H1 → ∀ Q : VK, (∀ v H2, Same H1 H2 → DaAt H2 v d → Q v H2) → te σ H1 Q
theorem TD.use {te : TE} {σ : St} {H : Hp} {d : Da} (h : TD te σ H d) {H1 : Hp} (s : Same H H1) {Q : VK} (q : ∀ v H2, Same H1 H2 → DaAt H2 v d → Q v H2) : te σ H1 Q := h.r H1 s Q q
structure TDs (ta : TA) (σ : St) (H : Hp) (ds : List Da) : Prop where
  r : ∀ H1, Same H H1 → ∀ Q : List V → Hp → Prop, (∀ vs H2, Same H1 H2 → DaAs H2 vs ds → Q vs H2) → ta σ H1 Q
structure TPo (tl : TO) (σ : St) (H : Hp) (o : Option Int) : Prop where
  r : ∀ H1, Same H H1 → ∀ Q : Option Int → Hp → Prop, (∀ H2, Same H1 H2 → Q o H2) → tl σ H1 Q
theorem DaAs.app {H : Hp} : ∀ {vs ws : List V} {xs ys : List Da}, DaAs H vs xs → DaAs H ws ys → DaAs H (vs ++ ws) (xs ++ ys)
  | _, _, _, _, .nil, q => q
  | _, _, _, _, .cons h r, q => .cons h (DaAs.app r q)
theorem DaAs.takeD {H : Hp} : ∀ {vs : List V} {xs : List Da} (n : Nat), DaAs H vs xs → DaAs H (vs.take n) (xs.take n)
  | _, _, 0, _ => by rw [List.take_zero, List.take_zero]; exact .nil
  | _, _, n + 1, .nil => .nil
  | _, _, n + 1, .cons h r => .cons h (DaAs.takeD n r)
theorem DaAs.dropD {H : Hp} : ∀ {vs : List V} {xs : List Da} (n : Nat), DaAs H vs xs → DaAs H (vs.drop n) (xs.drop n)
  | _, _, 0, h => by rw [List.drop_zero, List.drop_zero]; exact h
  | _, _, n + 1, .nil => .nil
  | _, _, n + 1, .cons h r => DaAs.dropD n r
section
variable {σ : St} {H : Hp} {te ta tb : TE} {ts : TA} {d : Da} {ds xs ys : List Da} {i j : Int} {tl th : TO} {lo hi : Option Int} {K : PySem.W.Frag}
theorem td_int : TD (tC (.int i)) σ H (.int i) := ⟨fun H1 _ _ q => q _ H1 (Same.refl _) (.int i)⟩
theorem td_bl {b : Bool} : TD (tC (.bl b)) σ H (.bl b) := ⟨fun H1 _ _ q => q _ H1 (Same.refl _) (.bl b)⟩
theorem td_non : TD (tC .non) σ H .non := ⟨fun H1 _ _ q => q _ H1 (Same.refl _) .non⟩
theorem td_str {z : Str} (h : z.length ≤ 1000) : TD (tC (.str z)) σ H (.str z) := ⟨fun H1 _ _ q => q _ H1 (Same.refl _) (.str z (by have sl0 : sizeLine = 16777216 := sizeLine_eq; omega))⟩
theorem td_v {k : Nat} {v : V} (e : σ[k]? = some (some v)) (h : DaAt H v d) : TD (tV k) σ H d := ⟨fun H1 s Q q => by
  unfold tV
  rw [e]
  exact q v H1 (Same.refl _) (h.same s)⟩
theorem td_v0 {v : V} {r : St} (h : DaAt H v d) : TD (tV 0) (some v :: r) H d := td_v rfl h
theorem td_v1 {v : V} {r : St} {o0 : Option V} (h : DaAt H v d) : TD (tV 1) (o0 :: some v :: r) H d := td_v rfl h
theorem td_v2 {v : V} {r : St} {o0 o1 : Option V} (h : DaAt H v d) : TD (tV 2) (o0 :: o1 :: some v :: r) H d := td_v rfl h
theorem td_v3 {v : V} {r : St} {o0 o1 o2 : Option V} (h : DaAt H v d) : TD (tV 3) (o0 :: o1 :: o2 :: some v :: r) H d := td_v rfl h
theorem td_v6 {v : V} {r : St} {o0 o1 o2 o3 o4 o5 : Option V} (h : DaAt H v d) : TD (tV 6) (o0 :: o1 :: o2 :: o3 :: o4 :: o5 :: some v :: r) H d := td_v rfl h
theorem td_v7 {v : V} {r : St} {o0 o1 o2 o3 o4 o5 o6 : Option V} (h : DaAt H v d) : TD (tV 7) (o0 :: o1 :: o2 :: o3 :: o4 :: o5 :: o6 :: some v :: r) H d := td_v rfl h
theorem td_v8 {v : V} {r : St} {o0 o1 o2 o3 o4 o5 o6 o7 : Option V} (h : DaAt H v d) : TD (tV 8) (o0 :: o1 :: o2 :: o3 :: o4 :: o5 :: o6 :: o7 :: some v :: r) H d := td_v rfl h
theorem td_v9 {v : V} {r : St} {o0 o1 o2 o3 o4 o5 o6 o7 o8 : Option V} (h : DaAt H v d) : TD (tV 9) (o0 :: o1 :: o2 :: o3 :: o4 :: o5 :: o6 :: o7 :: o8 :: some v :: r) H d := td_v rfl h
theorem td_v10 {v : V} {r : St} {o0 o1 o2 o3 o4 o5 o6 o7 o8 o9 : Option V} (h : DaAt H v d) : TD (tV 10) (o0 :: o1 :: o2 :: o3 :: o4 :: o5 :: o6 :: o7 :: o8 :: o9 :: some v :: r) H d := td_v rfl h
theorem td_v11 {v : V} {r : St} {o0 o1 o2 o3 o4 o5 o6 o7 o8 o9 o10 : Option V} (h : DaAt H v d) : TD (tV 11) (o0 :: o1 :: o2 :: o3 :: o4 :: o5 :: o6 :: o7 :: o8 :: o9 :: o10 :: some v :: r) H d := td_v rfl h
theorem td_v12 {v : V} {r : St} {o0 o1 o2 o3 o4 o5 o6 o7 o8 o9 o10 o11 : Option V} (h : DaAt H v d) : TD (tV 12) (o0 :: o1 :: o2 :: o3 :: o4 :: o5 :: o6 :: o7 :: o8 :: o9 :: o10 :: o11 :: some v :: r) H d := td_v rfl h
theorem td_v13 {v : V} {r : St} {o0 o1 o2 o3 o4 o5 o6 o7 o8 o9 o10 o11 o12 : Option V} (h : DaAt H v d) : TD (tV 13) (o0 :: o1 :: o2 :: o3 :: o4 :: o5 :: o6 :: o7 :: o8 :: o9 :: o10 :: o11 :: o12 :: some v :: r) H d := td_v rfl h
theorem td_v14 {v : V} {r : St} {o0 o1 o2 o3 o4 o5 o6 o7 o8 o9 o10 o11 o12 o13 : Option V} (h : DaAt H v d) : TD (tV 14) (o0 :: o1 :: o2 :: o3 :: o4 :: o5 :: o6 :: o7 :: o8 :: o9 :: o10 :: o11 :: o12 :: o13 :: some v :: r) H d := td_v rfl h
theorem td_v15 {v : V} {r : St} {o0 o1 o2 o3 o4 o5 o6 o7 o8 o9 o10 o11 o12 o13 o14 : Option V} (h : DaAt H v d) : TD (tV 15) (o0 :: o1 :: o2 :: o3 :: o4 :: o5 :: o6 :: o7 :: o8 :: o9 :: o10 :: o11 :: o12 :: o13 :: o14 :: some v :: r) H d := td_v rfl h
theorem tds_nil : TDs tNil σ H [] := ⟨fun H1 _ _ q => q [] H1 (Same.refl _) .nil⟩
theorem tds_cons (h : TD te σ H d) (r : TDs ts σ H ds) : TDs (tCons te ts) σ H (d :: ds) := ⟨fun H1 s Q q =>
  h.r H1 s _ fun v H2 s2 hv => r.r H2 (s.trans s2) _ fun vs H3 s3 hvs => q _ H3 (s2.trans s3) (.cons (hv.same s3) hvs)⟩
theorem td_tup (h : TDs ts σ H ds) (few : ds.length ≤ 25) : TD (tTup ts) σ H (.tup ds) := ⟨fun H1 s Q q =>
  h.r H1 s _ fun vs H2 s2 hvs => ⟨by have sl0 : sizeLine = 16777216 := sizeLine_eq; have := hvs.len; omega, fun p hp => q _ _ (s2.upd hp) (.tup upd_same (by rw [hvs.len]; exact few) (hvs.same ((Same.refl H2).upd hp)))⟩⟩
theorem td_lst (h : TDs ts σ H ds) (few : ds.length ≤ 25) : TD (tLst ts) σ H .oth := ⟨fun H1 s Q q =>
  h.r H1 s _ fun vs H2 s2 hvs => ⟨by have sl0 : sizeLine = 16777216 := sizeLine_eq; have := hvs.len; omega, fun p hp => q _ _ (s2.upd hp) (.lst upd_same)⟩⟩
theorem td_dic : TD tDNewK σ H .oth := ⟨fun H1 _ _ q p hp => q _ _ ((Same.refl H1).upd hp) (.dic upd_same)⟩
theorem td_add (ha : TD ta σ H (.int i)) (hb : TD tb σ H (.int j)) : TD (tOp (fI fun i j => .int (i + j)) ta tb) σ H (.int (i + j)) := ⟨fun H1 s Q q =>
  ha.r H1 s _ fun v H2 s2 hv => by
    cases hv
    exact hb.r H2 (s.trans s2) _ fun v H3 s3 hv => by cases hv; exact q _ H3 (s2.trans s3) (.int _)⟩
theorem td_add1 {k : Nat} (ha : TD ta σ H (.int (k : Int))) : TD (tOp (fI fun i j => .int (i + j)) ta (tC (.int 1))) σ H (.int ((k + 1 : Nat) : Int)) := td_add ha td_int
theorem td_cat (ha : TD ta σ H (.tup xs)) (hb : TD tb σ H (.tup ys)) (few : xs.length + ys.length ≤ 25) : TD (tOp CatA ta tb) σ H (.tup (xs ++ ys)) := ⟨fun H1 s Q q =>
  ha.r H1 s _ fun v H2 s2 hv => hb.r H2 (s.trans s2) _ fun w H3 s3 hw => by
    obtain ⟨a, vs, rfl, ea, la, ra⟩ := (hv.same s3).tupE
    obtain ⟨b, ws, rfl, eb, lb, rb⟩ := hw.tupE
    have sl0 : sizeLine = 16777216 := sizeLine_eq
    have l1 := ra.len
    have l2 := rb.len
    exact ⟨a, b, vs, ws, rfl, rfl, ea, eb, by omega, fun p H4 hp s4 => q _ H4 ((s2.trans s3).trans s4) (.tup hp (by rw [List.length_append]; omega) ((ra.app rb).same s4))⟩⟩
theorem tpo_none : TPo tNoPart σ H none := ⟨fun H1 _ _ q => q H1 (Same.refl _)⟩
theorem tpo_i (h : TD te σ H (.int i)) : TPo (tPartF te) σ H (some i) := ⟨fun H1 s Q q => h.r H1 s _ fun v H2 s2 hv => by cases hv; exact q H2 s2⟩
theorem td_sl (h : TD te σ H (.tup xs)) (hl : TPo tl σ H lo) (hh : TPo th σ H hi) : TD (tSl SlA te tl th) σ H (.tup ((xs.drop (HT.sIx xs.length 0 lo)).take (HT.sIx xs.length xs.length hi - HT.sIx xs.length 0 lo))) := ⟨fun H1 s Q q =>
  h.r H1 s _ fun v H2 s2 hv => hl.r H2 (s.trans s2) _ fun H3 s3 => hh.r H3 ((s.trans s2).trans s3) _ fun H4 s4 => by
    obtain ⟨a, vs, rfl, ea, la, ra⟩ := (hv.same (s3.trans s4)).tupE
    refine ⟨a, vs, rfl, ea, fun p H5 hp s5 => q _ H5 (((s2.trans s3).trans s4).trans s5) (.tup hp (Nat.le_trans (cutV_length _ _ _) la) ?_)⟩
    unfold cutV
    rw [ra.len]
    exact ((ra.dropD _).takeD _).same s5⟩
theorem td_to {k : Nat} (h : TD te σ H (.tup xs)) (hh : TPo th σ H (some (k : Int))) : TD (tSl SlA te tNoPart th) σ H (.tup (xs.take k)) := by
  have z := td_sl h tpo_none hh
  rw [HT.sIx_none, HT.sIx_nat, List.drop_zero, Nat.sub_zero] at z
  rw [show xs.take k = xs.take (min k xs.length) from by rw [List.take_eq_take_iff]; omega]
  exact z
theorem td_from {k : Nat} (h : TD te σ H (.tup xs)) (hl : TPo tl σ H (some (k : Int))) : TD (tSl SlA te tl tNoPart) σ H (.tup (xs.drop k)) := by
  have z := td_sl h hl tpo_none
  rw [HT.sIx_none, HT.sIx_nat] at z
  have e : (xs.drop (min k xs.length)).take (xs.length - min k xs.length) = xs.drop k := by
    rw [List.take_of_length_le (by rw [List.length_drop]; omega)]
    by_cases hk : k ≤ xs.length
    · rw [Nat.min_eq_left hk]
    · rw [List.drop_of_length_le (by omega), List.drop_of_length_le (by omega)]
  rw [e] at z
  exact z
end
structure Kp (H H' : Hp) : Prop where
  tup : ∀ b xs, H b = some (.tup xs) → H' b = some (.tup xs)
  lst : ∀ b xs, H b = some (.lst xs) → ∃ ys, H' b = some (.lst ys)
  dic : ∀ b ks, H b = some (.dK ks) → ∃ k2, H' b = some (.dK k2)
theorem Kp.of {H H' : Hp} (s : Same H H') : Kp H H' := ⟨fun _ _ h => s _ _ h, fun _ _ h => ⟨_, s _ _ h⟩, fun _ _ h => ⟨_, s _ _ h⟩⟩
theorem Kp.trans {H H1 H2 : Hp} (a : Kp H H1) (b : Kp H1 H2) : Kp H H2 := ⟨fun _ _ h => b.tup _ _ (a.tup _ _ h), fun _ _ h => let ⟨_, z⟩ := a.lst _ _ h; b.lst _ _ z, fun _ _ h => let ⟨_, z⟩ := a.dic _ _ h; b.dic _ _ z⟩
theorem Kp.put {H : Hp} {a : Addr} {xs ys : List V} (h : H a = some (.lst xs)) : Kp H (upd H a (.lst ys)) := by
  refine ⟨fun b zs e => ?_, fun b zs e => ?_, fun b zs e => ?_⟩
  · rw [upd_ne (fun z => by rw [z, h] at e; cases e)]; exact e
  · by_cases z : b = a
    · subst z; exact ⟨ys, upd_same⟩
    · exact ⟨zs, by rw [upd_ne z]; exact e⟩
  · exact ⟨zs, by rw [upd_ne (fun z => by rw [z, h] at e; cases e)]; exact e⟩
mutual
theorem DaAt.kp {H H' : Hp} (s : Kp H H') : ∀ {v : V} {d : Da}, DaAt H v d → DaAt H' v d
  | _, _, .non => .non
  | _, _, .bl b => .bl b
  | _, _, .int i => .int i
  | _, _, .str z h => .str z h
  | _, _, .tup h l r => .tup (s.tup _ _ h) l (DaAs.kp s r)
  | _, _, .lst h => let ⟨_, z⟩ := s.lst _ _ h; .lst z
  | _, _, .dic h => let ⟨_, z⟩ := s.dic _ _ h; .dic z
theorem DaAs.kp {H H' : Hp} (s : Kp H H') : ∀ {v : List V} {d : List Da}, DaAs H v d → DaAs H' v d
  | _, _, .nil => .nil
  | _, _, .cons h r => .cons (DaAt.kp s h) (DaAs.kp s r)
end
section
variable {σ : St} {H : Hp} {te : TE} {ts : TA} {ds ods : List Da} {K : PySem.W.Frag}
theorem tl_lst (h : TDs ts σ H ds) (few : ds.length ≤ 1000) {Q : VK} (q : ∀ a vs H2, H a = none → Same H H2 → H2 a = some (.lst vs) → DaAs H2 vs ds → Q (.ref a) H2) : tLst ts σ H Q :=
  h.r H (Same.refl H) _ fun vs H2 s2 hvs => ⟨by have sl0 : sizeLine = 16777216 := sizeLine_eq; have := hvs.len; omega, fun p hp => q p vs _ (by
    cases e : H p with
    | none => rfl
    | some o => rw [s2 _ _ e] at hp; cases hp) (s2.upd hp) upd_same (hvs.same ((Same.refl H2).upd hp))⟩
end
end K02
namespace K02
open PySem L2
section
variable {σ : St} {H : Hp} {te : TE} {ts : TA} {ds ods : List Da} {K : PySem.W.Frag} {D : Ends} {t u : TS}
theorem set_lst {i : Nat} (h : TDs ts σ H ds) (few : ds.length ≤ 1000) (q : ∀ a vs H2, H a = none → Same H H2 → H2 a = some (.lst vs) → DaAs H2 vs ds → D.nx (σ.set i (some (.ref a))) H2) : tAsg (tLst ts) (gName i) D σ H := tl_lst h few q
theorem asg_s {g : TG} (h : te σ H fun x H1 => g x σ H1 (u D)) : tSeq (tAsg te g) u D σ H := h
theorem asg_h {g : TG} (h : ∀ U : St → Hp → Prop, U = u D → te σ H fun x H1 => g x σ H1 U) : tSeq (tAsg te g) u D σ H := h (u D) rfl
theorem set_lstS {i : Nat} (σs : Option V → St) (hs : ∀ z, σ.set i z = σs z) (h : TDs ts σ H ds) (few : ds.length ≤ 1000) (q : ∀ a vs H2, H a = none → Same H H2 → H2 a = some (.lst vs) → DaAs H2 vs ds → u D (σs (some (.ref a))) H2) : tSeq (tAsg (tLst ts) (gName i)) u D σ H :=
  set_lst (D := { D with nx := u D }) h few fun a vs H2 h1 h2 h3 h4 => by show u D _ _; rw [hs]; exact q a vs H2 h1 h2 h3 h4
end
theorem fresh_up {H H1 : Hp} {a : Addr} (s : Same H H1) (h : H1 a = none) : H a = none := by
  cases e : H a with
  | none => rfl
  | some o => rw [s _ _ e] at h; cases h
section
variable {n l h d r : Da}
end
theorem runs_few {hs : List House} {h : House} (g : GoodHouses hs) (m : h ∈ hs) : h.runs.length ≤ 24 := by
  have z := g.few
  have gh := g.all h m
  have key : ∀ rs : List (List Row), (∀ r ∈ rs, r ≠ []) → rs.length ≤ rs.flatten.length := by
    intro rs
    induction rs with
    | nil => intro _; exact Nat.le_refl _
    | cons r rs ih =>
      intro hh
      have h1 := ih fun x hx => hh x (List.mem_cons_of_mem _ hx)
      have h2 : r.length ≠ 0 := fun e => hh r List.mem_cons_self (List.eq_nil_of_length_eq_zero e)
      rw [List.flatten_cons, List.length_append, List.length_cons]
      omega
  have k1 := key h.runs fun r hr => (gh.runs r hr).ne
  have k2 : (namesH h).length ≤ (namesOf hs).length := by
    unfold namesOf
    obtain ⟨a, b, e⟩ := List.append_of_mem m
    rw [e, List.flatMap_append, List.flatMap_cons, List.length_append, List.length_append]
    omega
  unfold namesH rowsH at k2
  rw [List.length_map] at k2
  omega
end K02
namespace K02
open PySem L2
section
variable {g : BI → TG} {te : BI → TE} {σ0 : St} {D : Addr} {End : Hp → Prop} {H1 : Hp}
end
section
variable {P : Program} {w : World} {K : PySem.W.Frag} {mg : Str → Option Value} {base : Heap} {t8 t6 tR tL : Tok}
end
end K02
namespace K02
open PySem L2
section
variable {P : Program} {w : World} {K : PySem.W.Frag} {mg : Str → Option Value} {base : Heap} {t8 t6 tR tL : Tok}
end
end K02
namespace K02
open PySem L2
section
variable {hs : List House} {s t l m : Da} {xs : List Da}
end
section
variable {P : Program} {w : World} {K : PySem.W.Frag} {mg : Str → Option Value} {base : Heap} {t8 t6 tR tL : Tok}
end
end K02
namespace K02
open PySem L2
section
variable {P : Program} {w : World} {K : PySem.W.Frag} {mg : Str → Option Value} {base : Heap} {t8 t6 tR tL : Tok}
end
end K02
namespace K02
open PySem L2
theorem kp_take {p : Addr} {H H' : Hp} (h : PackAt H p) (h' : PackAt H' p) (s : SameB p H H') : Kp H H' := by
  obtain ⟨n, e, _⟩ := h
  obtain ⟨n', e', _⟩ := h'
  refine ⟨fun b xs z => s b _ (fun w => by rw [w, e] at z; cases z) z, fun b xs z => ?_, fun b ks z => ⟨_, s b _ (fun w => by rw [w, e] at z; cases z) z⟩⟩
  by_cases w : b = p
  · subst w; exact ⟨_, e'⟩
  · exact ⟨_, s b _ w z⟩
theorem paired_of {α : Type} {H : Hp} {R : V → α → Prop} {f : α → Da} : ∀ {vs : List V} {xs : List α}, DaAs H vs (xs.map f) → (∀ v x, DaAt H v (f x) → R v x) → Paired R vs xs
  | [], [], .nil, _ => .nil
  | _ :: _, _ :: _, .cons h r, k => .cons (k _ _ h) (paired_of r k)
section
variable {H : Hp} {v : V}
theorem RowAt.off {r : Row} (h : DaAt H v (rowDa r)) : RowAt H v r := by
  obtain ⟨a, vs, rfl, e, _, rr⟩ := h.tupE
  obtain ⟨_, _, rfl, q1, q2⟩ := rr.two
  cases q1; cases q2; exact ⟨a, rfl, e⟩
theorem RunAt.off {r : List Row} (h : DaAt H v (runDa r)) : RunAt H v r := by
  obtain ⟨a, vs, rfl, e, _, rr⟩ := h.tupE
  exact ⟨a, vs, rfl, e, paired_of rr fun _ _ => RowAt.off⟩
theorem RunsAt.off {r : List (List Row)} (h : DaAt H v (runsDa r)) : RunsAt H v r := by
  obtain ⟨a, vs, rfl, e, _, rr⟩ := h.tupE
  exact ⟨a, vs, rfl, e, paired_of rr fun _ _ => RunAt.off⟩
theorem HouseAt.off {h : House} (d : DaAt H v (houseDa h)) : HouseAt H v h := by
  obtain ⟨a, vs, rfl, e, _, rr⟩ := d.tupE
  obtain ⟨_, _, _, _, b, rfl, q1, q2, q3, q4, q5⟩ := rr.five
  cases q1; cases q2; cases q3; cases q4; exact ⟨a, b, rfl, e, RunsAt.off q5⟩
theorem HousesAt.off {hs : List House} (d : DaAt H v (housesDa hs)) : HousesAt H v hs := by
  obtain ⟨a, vs, rfl, e, _, rr⟩ := d.tupE
  exact ⟨a, vs, rfl, e, paired_of rr fun _ _ => HouseAt.off⟩
theorem most_off {m : Option Int} (h : DaAt H v (mostDa m)) : v = mostV m := by
  cases m <;> cases h <;> rfl
theorem LetterAt.off {l : Letter} (d : DaAt H v (letterDa l)) : LetterAt H v l := by
  obtain ⟨a, vs, rfl, e, _, rr⟩ := d.tupE
  obtain ⟨_, _, _, b, rfl, q1, q2, q3, q4⟩ := rr.four
  cases q1; cases q2; cases q3; cases most_off q4; exact ⟨a, rfl, e⟩
theorem LettersAt.off {ls : List Letter} (d : DaAt H v (lettersDa ls)) : LettersAt H v ls := by
  obtain ⟨a, vs, rfl, e, _, rr⟩ := d.tupE
  exact ⟨a, vs, rfl, e, paired_of rr fun _ _ => LetterAt.off⟩
end
section
variable {g : BI → TG} {te : BI → TE} {σ0 : St} {D : Addr} {End : Hp → Prop} {H1 : Hp}
theorem comp_tupD {K : PySem.W.Frag} {a : Addr} {xs : List V} {ds : List Da} {f : Da → Da} (hD : H1 D = none) (ha : H1 a = some (.tup xs)) (hx : DaAs H1 xs ds) (few : ds.length ≤ 1000)
    (turn : ∀ (x : V) (d : Da) (H' : Hp), d ∈ ds → DaAt H' x d → Same H1 H' → ∀ b (R : VK), (∀ v H'', Same H' H'' → DaAt H'' v (f d) → R v H'') → g b x σ0 H' fun σ2 H2 => te b σ2 H2 R)
    (fin : ∀ vs H', Same H1 H' → H' D = some (.lst vs) → DaAs H' vs (ds.map f) → End H') :
    ∃ W : Nat → Nat → Hp → Prop, (∃ m, W 0 m (upd H1 D (.lst []))) ∧ ∀ b, CTurn (Itt K a) (g b) (tYes) (aPut D (te b)) σ0 End W :=
  comp_tup (xs := xs) (fun i H' => ∃ vs, H' D = some (.lst vs) ∧ Same H1 H' ∧ DaAs H' vs ((ds.take i).map f)) ⟨[], upd_same, (Same.refl H1).upd hD, .nil⟩ (fun i H' _ ⟨_, _, s, _⟩ => SqT.of (s _ _ ha)) (fun H' ⟨vs, e, s, h⟩ => fin vs H' s e (by rw [hx.len, List.take_length] at h; exact h)) (fun i x H' hi hlt ⟨vs, e, s, h⟩ b => by
    obtain ⟨d, hd, hxd⟩ := hx.get hi
    refine turn x d H' (List.mem_of_getElem? hd) (hxd.same s) s b _ fun v H'' s2 hv => ⟨vs, s2 _ _ e, by have sl0 : sizeLine = 16777216 := sizeLine_eq; have := h.len; rw [List.length_map, List.length_take] at this; omega, nx hlt ?_⟩
    refine ⟨vs ++ [v], upd_same, fun c u z => by rw [upd_ne (ne_of_none z hD)]; exact (s.trans s2) c u z, ?_⟩
    have z : (ds.take (i + 1)).map f = (ds.take i).map f ++ [f d] := by rw [List.take_add_one, hd, List.map_append]; rfl
    rw [z]
    exact ((h.same s2).app (.cons hv .nil)).kp (Kp.put (s2 _ _ e)))
end
noncomputable def putH {α : Type} (l : List α) (k : Nat) (x : α) : List α := l.take k ++ [x] ++ l.drop (k + 1)
theorem putH_split {α : Type} {l : List α} {k : Nat} {y : α} (h : l[k]? = some y) : l = l.take k ++ [y] ++ l.drop (k + 1) := by
  obtain ⟨li, fi⟩ := List.getElem?_eq_some_iff.mp h
  rw [List.append_assoc, List.singleton_append, ← fi, List.getElem_cons_drop, List.take_append_drop]
theorem putH_len {α : Type} {l : List α} {k : Nat} {x y : α} (h : l[k]? = some y) : (putH l k x).length = l.length := by
  conv => rhs; rw [putH_split h]
  unfold putH
  simp
theorem putH_map {α β : Type} {f : α → β} {l : List α} {k : Nat} {x y : α} (h : l[k]? = some y) (e : f x = f y) : (putH l k x).map f = l.map f := by
  conv => rhs; rw [putH_split h]
  unfold putH
  simp [e]
theorem putH_flat {α β : Type} {f : α → List β} {l : List α} {k : Nat} {x y : α} (h : l[k]? = some y) (e : f x = f y) : (putH l k x).flatMap f = l.flatMap f := by
  conv => rhs; rw [putH_split h]
  unfold putH
  simp [e]
theorem putH_mem {α : Type} {l : List α} {k : Nat} {x z : α} (h : z ∈ putH l k x) : z ∈ l ∨ z = x := by
  unfold putH at h
  rw [List.mem_append, List.mem_append, List.mem_singleton] at h
  rcases h with (h | h) | h
  · exact .inl (List.mem_of_mem_take h)
  · exact .inr h
  · exact .inl (List.mem_of_mem_drop h)
theorem putH_keep {α : Type} {l : List α} {k : Nat} {x y z : α} (h : l[k]? = some y) (m : z ∈ l) : z = y ∨ z ∈ putH l k x := by
  rw [putH_split h, List.mem_append, List.mem_append, List.mem_singleton] at m
  unfold putH
  rw [List.mem_append, List.mem_append]
  rcases m with (m | m) | m
  · exact .inr (.inl (.inl m))
  · exact .inl m
  · exact .inr (.inr m)
theorem putH_in {α : Type} {l : List α} {k : Nat} {x : α} : x ∈ putH l k x := by
  unfold putH
  rw [List.mem_append, List.mem_append]
  exact .inl (.inr (List.mem_singleton.mpr rfl))
theorem good_put {hs : List House} {k : Nat} {h h' : House} (g : GoodHouses hs) (e : hs[k]? = some h) (n : h'.name = h.name) (m : namesH h' = namesH h) (gh : GoodHouse h') : GoodHouses (putH hs k h') ∧ namesOf (putH hs k h') = namesOf hs := by
  have e1 : namesOf (putH hs k h') = namesOf hs := putH_flat e m
  exact ⟨⟨by rw [putH_len e]; exact g.lo, by rw [putH_len e]; exact g.hi, fun z hz => (putH_mem hz).elim (g.all z) (fun w => w ▸ gh), by rw [putH_map e n]; exact g.names, by rw [e1]; exact g.rows, by rw [e1]; exact g.few⟩, e1⟩
theorem letters_put {hs : List House} {ls : List Letter} {k : Nat} {h h' : House} (g : GoodLetters hs ls) (e : hs[k]? = some h) (n : h'.name = h.name) (m : namesH h' = namesH h) : GoodLetters (putH hs k h') ls := by
  refine ⟨g.few, fun l hl => ?_, g.rise⟩
  obtain ⟨g1, g2, g3, g4, h1, m1, h2, m2, n1, n2, ne⟩ := g.all l hl
  have w : ∀ z ∈ hs, ∃ z' ∈ putH hs k h', namesH z' = namesH z ∧ z'.name = z.name := fun z hz => by
    rcases putH_keep (x := h') e hz with q | q
    · subst q; exact ⟨h', putH_in, m, n⟩
    · exact ⟨z, q, rfl, rfl⟩
  obtain ⟨z1, q1, a1, b1⟩ := w h1 m1
  obtain ⟨z2, q2, a2, b2⟩ := w h2 m2
  exact ⟨g1, g2, g3, g4, z1, q1, z2, q2, by rw [a1]; exact n1, by rw [a2]; exact n2, by rw [b1, b2]; exact ne⟩
theorem letter_put {hs : List House} {ls : List Letter} {k : Nat} {l l' : Letter} (g : GoodLetters hs ls) (e : ls[k]? = some l) (n : l'.1 = l.1) (h1 : 1 ≤ l'.2.1) (h2 : ∀ m, l'.2.2 = some m → l'.2.1 ≤ m) : GoodLetters hs (putH ls k l') := by
  refine ⟨by rw [putH_len e]; exact g.few, fun z hz => ?_, by rw [putH_map e n]; exact g.rise⟩
  rcases putH_mem hz with q | q
  · exact g.all z q
  · subst q
    have gl := g.all l (List.mem_of_getElem? e)
    refine ⟨by rw [n]; exact gl.sent, by rw [n]; exact gl.taken, h1, h2, ?_⟩
    rw [n]
    exact gl.houses
theorem run_moved {rs : List Row} (g : GoodRun rs) (m : Int) : GoodRun (rs.map fun r => (r.1, r.2 + m)) := by
  refine ⟨fun z => g.ne (List.map_eq_nil_iff.mp z), by rw [List.length_map]; exact g.few, fun r hr => ?_, ?_⟩
  · obtain ⟨x, hx, rfl⟩ := List.mem_map.mp hr
    exact g.names x hx
  · have := g.rise
    rw [List.pairwise_map] at this
    rw [List.map_map, List.pairwise_map]
    exact this.imp fun {a b} z => by show a.2 + m < b.2 + m; omega
theorem runs_moved {h : House} {k : Nat} {r r' : List Row} (e : h.runs[k]? = some r) (n : r'.map Prod.fst = r.map Prod.fst) : ((putH h.runs k r').flatten).map Prod.fst = (h.runs.flatten).map Prod.fst := by
  rw [List.map_flatten, List.map_flatten, putH_map e n]
theorem td_v16 {H : Hp} {d : Da} {v : V} {r : St} {o0 o1 o2 o3 o4 o5 o6 o7 o8 o9 o10 o11 o12 o13 o14 o15 : Option V} (h : DaAt H v d) : TD (tV 16) (o0 :: o1 :: o2 :: o3 :: o4 :: o5 :: o6 :: o7 :: o8 :: o9 :: o10 :: o11 :: o12 :: o13 :: o14 :: o15 :: some v :: r) H d := td_v rfl h
theorem td_v17 {H : Hp} {d : Da} {v : V} {r : St} {o0 o1 o2 o3 o4 o5 o6 o7 o8 o9 o10 o11 o12 o13 o14 o15 o16 : Option V} (h : DaAt H v d) : TD (tV 17) (o0 :: o1 :: o2 :: o3 :: o4 :: o5 :: o6 :: o7 :: o8 :: o9 :: o10 :: o11 :: o12 :: o13 :: o14 :: o15 :: o16 :: some v :: r) H d := td_v rfl h
theorem td_v18 {H : Hp} {d : Da} {v : V} {r : St} {o0 o1 o2 o3 o4 o5 o6 o7 o8 o9 o10 o11 o12 o13 o14 o15 o16 o17 : Option V} (h : DaAt H v d) : TD (tV 18) (o0 :: o1 :: o2 :: o3 :: o4 :: o5 :: o6 :: o7 :: o8 :: o9 :: o10 :: o11 :: o12 :: o13 :: o14 :: o15 :: o16 :: o17 :: some v :: r) H d := td_v rfl h
section
variable {P : Program} {w : World} {K : PySem.W.Frag} {mg : Str → Option Value} {base : Heap} {t8 t6 tR tL : Tok}
end
end K02
namespace K02
open PySem L2
section
variable {g : BI → TG} {te : BI → TE} {σ0 : St} {D : Addr} {End : Hp → Prop} {H1 : Hp}
end
noncomputable def spLaw (K : PySem.W.Frag) : Sp := fun vs H Q _ => ∃ (a : Addr) (ns : List Int), vs = [.ref a] ∧ SqL K H a (ns.map V.int) ∧ ns.length ≤ 63 ∧ (∀ n ∈ ns, Bits n) ∧ ∀ H', Q (.bl true) H'
section
variable {P : Program} {w : World} {K : PySem.W.Frag} {mg : Str → Option Value} {base : Heap} {t8 t6 tR tL : Tok}
end
end K02
namespace L2
open PySem PySem.Spec PyProof.Rows
noncomputable def CX1 (P : Program) (w : World) : CXT := fun outer H s E e s' =>
  ∃ (a C t : Addr) (B : Heap) (H' : Hp), e = .ref a ∧ s'.os = s.os ∧ AllBare s'.gens ∧ Un (frs outer) [] H H' s.heap s'.heap ∧ HOk P w H' s'.heap ∧ Heap.FlyingW B outer a (.ref C) (.ref t) s'.heap ∧
    (∀ b o, s'.heap.get? b = some o → b ∉ frs outer → ((∃ u, H' b = some u) ∨ ∃ u, s.heap.get? b = some u) → B.get? b = some o) ∧ H' a = none ∧ E (.ref C) none H'
section
variable {X : Cx} {pins : List (Addr × Obj)} {σ : St} {H : Hp} {s : Shared}
theorem Inv.track (I : Inv X pins σ H s) {b : Addr} {u : HO} (e : H b = some u) : b ∉ frs X.stack := fun z => by
  rw [I.stkFree b z] at e; cases e
theorem Inv.old (I : Inv X pins σ H s) {b : Addr} {u : Obj} (e : X.s₀.heap.get? b = some u) (hb : b ∉ X.fs) : b ∉ frs X.stack := fun z => by
  rcases List.mem_cons.mp (I.stkSub b z) with q | q
  · rw [q] at e; exact absurd (Nat.lt_of_lt_of_le (Heap.lt_size e) I.ok.above) (Nat.lt_irrefl _)
  · exact hb q
theorem Inv.out (I : Inv X pins σ H s) (hex : X.ex = []) {h2 : Heap} (hk : ∀ b o, s.heap.get? b = some o → b ∉ frs X.stack → h2.get? b = some o)
    (hs : ∀ b o, s.heap.get? b = some o → b ∈ frs X.stack → ∃ sl, h2.get? b = some { o with slots := sl }) : Un X.fs [] X.H₀ H X.s₀.heap h2 ∧ HOk X.prog X.w H h2 := by
  have nx : ∀ b : Addr, b ∉ X.ex := fun b => by rw [hex]; simp
  refine ⟨⟨fun b o q n hb _ => hk b o (I.base.keep b o q n hb (nx b)) (I.old q hb), fun b o q n hb _ => ?_, fun b o q n _ => I.base.free b o q n (nx b), fun b o q _ => ?_, I.base.tups, I.base.frzs, I.base.tbls⟩, fun a o e => ?_⟩
  · obtain ⟨sl, e⟩ := I.base.slot b o q n hb (nx b)
    by_cases z : b ∈ frs X.stack
    · obtain ⟨sl2, e2⟩ := hs b _ e z
      exact ⟨sl2, e2⟩
    · exact ⟨sl, hk b _ e z⟩
  · obtain ⟨o2, e⟩ := I.base.there b o q (nx b)
    by_cases z : b ∈ frs X.stack
    · obtain ⟨sl2, e2⟩ := hs b _ e z
      exact ⟨_, e2⟩
    · exact ⟨_, hk b _ e z⟩
  · refine (I.hok a o e).stay (fun b u hb q => hk b u q ?_) (fun _ q => q) fun _ _ q => q
    rcases hb with rfl | hb
    · exact I.track e
    · exact I.track hb
theorem Inv.there (I : Inv X pins σ H s) {b : Addr} {u : HO} (e : H b = some u) : ∃ o, s.heap.get? b = some o := by
  have z := I.hok b u e
  have l := z.lt
  cases q : s.heap.get? b with
  | some o => exact ⟨o, rfl⟩
  | none =>
    exfalso
    revert z
    cases u with
    | lst xs => intro z; obtain ⟨_, _, _, _, r⟩ := z; rw [q] at r; cases r
    | tup xs => intro z; obtain ⟨_, _, _, o, r, _⟩ := z; rw [q] at r; cases r
    | dK kvs => intro z; obtain ⟨_, _, _, _, o, _, _, r, _⟩ := z; rw [q] at r; cases r
    | dT kvs => intro z; obtain ⟨_, _, _, _, o, _, _, r, _⟩ := z; rw [q] at r; cases r
    | set S n => intro z; obtain ⟨o, _, _, _, r, _⟩ := z; rw [q] at r; cases r
    | ins C dx fs => intro z; obtain ⟨_, _, _, r, _⟩ := z; rw [q] at r; cases r
    | own y => intro z; obtain ⟨_, r⟩ := z; rw [q] at r; cases r
    | xd fs => intro z; obtain ⟨_, ⟨_, _, _, r, _⟩, _⟩ := z; rw [q] at r; cases r
    | rng lo hi => intro z; obtain ⟨_, _, _, r⟩ := z; rw [q] at r; cases r
    | frz ob u => intro z; obtain ⟨r, _⟩ := z; rw [q] at r; cases r
    | tbl ps => intro z; have r : s.heap.get? b = some _ := z; rw [q] at r; cases r
    | met f y => intro z; have r : s.heap.get? b = some _ := z; rw [q] at r; cases r
    | ext φ => intro z; obtain ⟨_, ⟨_, r⟩, _⟩ := z; rw [q] at r; cases r
end
theorem exc_at {K : PySem.W.Frag} {h : Heap} {C : Addr} {bmB : List Value} {newId : String} (X : K.In h) (q : PySem.W.excIn K C bmB newId = true) :
    ∃ (nm qn : Str) (N : Addr) (bs bm : List Value) (hd : Bool) (sn : List Str) (sub : List Value) (ab : Bool) (col : Option Bool) (dd : Option Addr) (k0 k1 k2 k3 k5 : Option Value) (mN : Str → Option Value),
      h.get? C = some (excClassObj nm qn C N bs bm hd sn sub ab col dd k0 k1 k2 k3 k5 newId) ∧ h.Ns N mN ∧ mN "__init__" = none ∧ OwnTail h bmB bm := by
  unfold PySem.W.excIn at q
  split at q
  case h_1 dd cd sl ho =>
    split at q
    case h_1 C' bm k0 k1 k2 k3 n k5 hm hs =>
      obtain ⟨q, hni⟩ := Bool.and_eq_true_iff.mp q
      obtain ⟨q, hok⟩ := Bool.and_eq_true_iff.mp q
      obtain ⟨q, ht⟩ := Bool.and_eq_true_iff.mp q
      obtain ⟨q, hdel⟩ := Bool.and_eq_true_iff.mp q
      obtain ⟨q1, q2⟩ := Bool.and_eq_true_iff.mp q
      have q1 := beq_iff_eq.mp q1
      have q2 := beq_iff_eq.mp q2
      have hni := beq_iff_eq.mp hni
      subst q1 q2
      obtain ⟨nm, bs, mro, ns, qn, hd, sn, sub, ab, col, del⟩ := cd
      have hm2 : mro = Value.ref C' :: bm := hm
      have hdel2 : del = false := by simpa using hdel
      subst hm2 hdel2
      have hsl : sl = #[k0, k1, k2, k3, some (.builtin n), k5] := by
        cases sl with
        | mk l => exact congrArg Array.mk hs
      subst hsl
      exact ⟨nm, qn, ns, bs, bm, hd, sn, sub, ab, col, dd, k0, k1, k2, k3, k5, _, X _ _ ho, .of_isNs (PySem.W.isNs_of_in X hok), PySem.W.nsMap_none_of_in X hok hni, PySem.W.tail_of_in X ht⟩
    case h_2 => cases q
  case h_2 => cases q
noncomputable def Leaves (X : Cx) (E : XK) : Prop := X.stack = X.env :: X.outer ∧ X.env.frame = some X.env.locals ∧ X.ex = [] ∧ X.calm = true ∧
  ∀ e s', wpAny (model X.prog X.w) X.A (leaving X.env e) (fun _ s2 => CX1 X.prog X.w X.outer X.H₀ X.s₀ E e s2) (fun e' s2 => CX1 X.prog X.w X.outer X.H₀ X.s₀ E e' s2) s' → X.xe e s'
theorem leaves_of {P : Program} {w : World} {K : PySem.W.Frag} {mg : Str → Option Value} {base : Heap} {N : List Str} {qual : Str} {scope : Scope} {f : Addr} {cd : Value} {A : Around} {outer : List Env} {s : Shared} {H : Hp} {E : XK} :
    Leaves (cxOf (CX1 P w) P w K mg base N qual scope f cd A outer s H E) E := ⟨rfl, rfl, rfl, rfl, fun _ _ h => h⟩
section
variable {X : Cx} {E : XK} {x : Str} {C : Addr} {np cpos pos : Pos} {e : Expr} {es : List Expr} {t : TA}
noncomputable def tRaise (C : Addr) (E : XK) (t : TA) : TS := fun _ σ H => t σ H fun vs H1 => vs.length ≤ sizeLine ∧ E (.ref C) none H1
theorem ps_raise (L : Leaves X E) (oc : PySem.W.excIn X.K C [.type "ValueError", .type "Exception", .type "BaseException", .type "object"] "ValueError.__new__" = true) (hg : Gl X x) (hm : X.mg x = some (.ref C)) (ha : PA X (e :: es) t)
    (hdb : (x == ("__debug__" : Str)) = false := by decide) (he : starEach (e :: es) X.env = (false, eval e X.env) :: starEach es X.env := by rfl) (hpl : (backTo cpos (starEach es X.env)).any (·.1) = false := by rfl) :
    PS X (.Raise (some (.Call (.Name x np) (e :: es) [] cpos)) none pos) (tRaise C E t) := by
  intro pins s σ H D I h
  obtain ⟨hst, hf, hex, hcalm, hxe⟩ := L
  obtain ⟨nm, qn, N, bs, bm, hd, sn, sub, ab, col, dd, k0, k1, k2, k3, k5, mN, hC, hN, hni, hT⟩ := exc_at I.mod.kin oc
  have hpl' : (backTo cpos (starEach (e :: es) X.env)).any (·.1) = false := by
    rw [he]
    show (false || (backTo cpos (starEach es X.env)).any (·.1)) = false
    rw [hpl]; rfl
  refine wpAny_Raise_call_subT (C := C) (nm := nm) (q := qn) (N := N) (bs := bs) (bm := bm) (hdct := hd) (sn := sn) (sub := sub) (ab := ab) (col := col) (dd := dd) (k0 := k0) (k1 := k1) (k2 := k2) (k3 := k3) (k5 := k5) (mN := mN) PySem.F.excBase_ValueError (hT.hasType (by decide)) (I.ok.hd hcalm) hpl' hni (ld_glob I hg hm ⟨rfl, ?_⟩ hdb)
  have h1 := ha cpos pins s σ H _ I h
  rw [he] at h1 ⊢
  refine Calls.evalArgs_plain (thn h1 fun us s2 z => ?_)
  obtain ⟨vs, H2, I2, rv, hl, hE⟩ := z
  refine ⟨rfl, by rw [← rv.length]; exact hl, I2.bk _ _ hC, hN.keeps I2.bk, hT.keeps I2.bk, fun h' a hme => hxe _ _ ?_⟩
  have hfr : X.A.frames = some (X.env :: X.outer) := by rw [← hst]; exact I.ok.frames
  have hFF : s2.heap.FunFrames (PySem.W.hideAll s2.heap (frs X.stack)) (X.env :: X.outer) := by
    have z := PySem.W.funFrames_hide (as := frs X.stack) I2.stack (fun env he a ha => List.mem_filterMap.mpr ⟨env, he, ha⟩)
    rw [hst] at z ⊢
    exact z
  refine wpAny_leaves_madeW (base := PySem.W.hideAll s2.heap (frs X.stack)) (h := s2.heap) hfr hf (fun b o z => PySem.W.of_hideAll _ z) hFF hme fun h2 tt fl tup nt up => ?_
  have hk : ∀ b o, s2.heap.get? b = some o → b ∉ frs X.stack → h2.get? b = some o := fun b o q nb => fl.1 b o (PySem.W.hideAll_get _ q nb)
  obtain ⟨un, hok⟩ := I2.out hex hk (fun b o q hb => by
    obtain ⟨_, o', ho', nf⟩ := I2.stack.mem hb
    rw [q] at ho'; cases ho'
    exact up b o (hme.keeps b o q) nf)
  refine ⟨a, C, tt, _, H2, rfl, I2.os, I2.bare, un, hok, fl, fun b o q nb hb => ?_, ?_, hE⟩
  · rcases hb with ⟨u, hu⟩ | ⟨u, hu⟩
    · obtain ⟨o2, e2⟩ := I2.there hu
      have z := hk b o2 e2 (I2.track hu)
      rw [q] at z; cases z
      exact PySem.W.hideAll_get _ e2 (I2.track hu)
    · obtain ⟨o2, e2⟩ := I2.base.there b u hu (by rw [hex]; simp)
      have nb2 := I2.old hu nb
      have z := hk b o2 e2 nb2
      rw [q] at z; cases z
      exact PySem.W.hideAll_get _ e2 nb2
  · cases z : H2 a with
    | none => rfl
    | some u =>
      obtain ⟨o, eo⟩ := I2.there z
      rw [hme.new] at eo; cases eo
end
end L2
namespace L2
open PySem PySem.Spec PyProof.Rows
section
variable {X : Cx} {pins : List (Addr × Obj)} {σ : St} {H : Hp} {s : Shared}
theorem gone_ok {M : Model} {A : Around} {E : Value → Shared → Prop} {i : Nat} {x : Str} {pos : Pos} {Q : Unit → Shared → Prop} (I : Inv X pins σ H s) (hN : X.N.Nodup) (hi : X.N[i]? = some x) (hk : X.env.scope.names.lookup x = some .local)
    (h : ∀ s', Inv X pins (σ.set i none) H s' → Q () s') : wpAny M A (do bindName X.env x .none; unbindBehindTheSuite X.env x pos) Q E s := by
  obtain ⟨m, hn, hl⟩ := id I.loc
  have hiσ : i < σ.length := by rw [I.len]; exact (List.getElem?_eq_some_iff.mp hi).1
  refine wpAny_nameGoes_keeps hk hn (by rw [I.ok.kind]; rfl) fun h' v hn' hs => h _ ?_
  have far : ∀ {b : Addr} {o : Obj}, X.s₀.heap.get? b = some o → h'.get? b = s.heap.get? b := fun e => hs.2 _ (Nat.ne_of_lt (Nat.lt_of_lt_of_le (Heap.lt_size e) I.ok.above))
  refine ⟨I.ok, I.os, I.bare, ⟨fun b o e n hb hx => (far e).trans (I.base.keep b o e n hb hx), fun b o e n hb hx => ?_, I.base.free, fun b o e hx => ?_, I.base.tups, I.base.frzs, I.base.tbls⟩, ⟨_, hn', fun j y v' e1 e2 e3 => ?_⟩, fun y c e => ?_, I.free, I.freeC, fun p hp => ?_, fun b ob e => ?_, by rw [List.length_set]; exact I.len⟩
  · obtain ⟨sl, e1⟩ := I.base.slot b o e n hb hx
    exact ⟨sl, (far e).trans e1⟩
  · obtain ⟨o', e1⟩ := I.base.there b o e hx
    exact ⟨o', (far e).trans e1⟩
  · by_cases hj : j = i
    · subst hj
      rw [List.getElem?_set_self hiσ] at e2
      cases e2
    · rw [List.getElem?_set_ne (Ne.symm hj)] at e2
      obtain ⟨u', r', q⟩ := hl j y v' e1 e2 e3
      refine ⟨u', r', ?_⟩
      rcases q with ⟨k, e⟩ | ⟨k, c, e, z⟩
      · refine .inl ⟨k, ?_⟩
        have ny : y ≠ x := fun e => hj (nodup_ix hN e1 (e ▸ hi))
        show (if y = x then v else m y) = some u'
        rw [if_neg ny]; exact e
      · exact .inr ⟨k, c, e, z.sameBut hs (I.cne y c e)⟩
  · obtain ⟨w', z⟩ := I.cell y c e
    exact ⟨w', z.sameBut hs (I.cne y c e)⟩
  · obtain ⟨e, n, ne, nf, d⟩ := I.pin p hp
    exact ⟨(hs.2 p.1 ne).trans e, n, ne, nf, d⟩
  · refine (I.hok b ob e).stay (fun c w' hc q => (hs.2 c ?_).trans q) (fun _ q => q) fun _ _ q => q
    intro z
    subst z
    rcases hc with hc | hc
    · rw [← hc, I.free] at e; cases e
    · rw [I.free] at hc; cases hc
noncomputable abbrev Cx.marked (X : Cx) (a : Addr) (E : Value → Shared → Prop) : Cx := { X with A := X.A.mark (some (.ref a)), calm := false, xe := E }
theorem Cx.Ok.marked (ok : X.Ok) (a : Addr) (E : Value → Shared → Prop) : (X.marked a E).Ok :=
  ⟨ok.mod, ok.kind, ok.glob, ok.blt, ok.above, ok.inj, ok.has, ok.cab, (fun z => nomatch z), ok.frames, ok.stk, ok.exf, ok.bs, ok.bsz, ok.noex, ok.exfs, ok.funs, ok.frf⟩
theorem Inv.marked (I : Inv X pins σ H s) (a : Addr) (E : Value → Shared → Prop) : Inv (X.marked a E) pins σ H s := ⟨I.ok.marked a E, I.os, I.bare, I.base, I.loc, I.cell, I.free, I.freeC, I.pin, I.hok, I.len⟩
theorem Inv.unmarked {a : Addr} {E : Value → Shared → Prop} (ok : X.Ok) (I : Inv (X.marked a E) pins σ H s) : Inv X pins σ H s := ⟨ok, I.os, I.bare, I.base, I.loc, I.cell, I.free, I.freeC, I.pin, I.hok, I.len⟩
noncomputable def ExcAt (a C : Addr) (h : Heap) : Prop := ∃ o vs, h.get? a = some o ∧ o.cls = .ref C ∧ o.data = .fields vs
noncomputable def exO (a C : Addr) : HO := .ext (ExcAt a C)
theorem exO_ok {P : Program} {w : World} {h : Heap} {a C : Addr} (e : ExcAt a C h) : ObjOk P w H h a (exO a C) := by
  refine ⟨e, ?_, fun h1 h2 p k => ?_⟩
  · obtain ⟨o, _, e, _⟩ := e; exact ⟨o, e⟩
  · obtain ⟨o, vs, e, r⟩ := p
    exact ⟨o, vs, k o e, r⟩
theorem fly_un {P : Program} {w : World} {l : List Env} {H1 H2 : Hp} {h1 h2 h5 B G : Heap} (un : Un (frs l) [] H1 H2 h1 h2) (hok : HOk P w H2 h2) (fr : ∀ b ∈ frs l, H2 b = none) (ff : h2.FunFrames G l)
    (cov : ∀ b o, h2.get? b = some o → b ∉ frs l → ((∃ u, H2 b = some u) ∨ ∃ u, h1.get? b = some u) → B.get? b = some o) (st : B.StaysIn h5) (up : h2.UpToSlots h5) : Un (frs l) [] H1 H2 h1 h5 ∧ HOk P w H2 h5 := by
  refine ⟨⟨fun b o q n hb hx => st b o (cov b o (un.keep b o q n hb hx) hb (.inr ⟨o, q⟩)), fun b o q n hb hx => ?_, un.free, fun b o q hx => ?_, un.tups, un.frzs, un.tbls⟩, fun a o e => ?_⟩
  · obtain ⟨sl, e⟩ := un.slot b o q n hb hx
    obtain ⟨_, o', ho', nf⟩ := ff.mem hb
    rw [e] at ho'; cases ho'
    obtain ⟨sl2, e2⟩ := up b _ e nf
    exact ⟨sl2, e2⟩
  · obtain ⟨o2, e⟩ := un.there b o q hx
    by_cases hb : b ∈ frs l
    · obtain ⟨_, o', ho', nf⟩ := ff.mem hb
      rw [e] at ho'; cases ho'
      obtain ⟨sl2, e2⟩ := up b _ e nf
      exact ⟨_, e2⟩
    · exact ⟨_, st b _ (cov b _ e hb (.inr ⟨o, q⟩))⟩
  · have nf : ∀ {b u}, H2 b = some u → b ∉ frs l := fun {b u} z y => by rw [fr b y] at z; cases z
    refine (hok a o e).stay (fun b u hb q => ?_) (fun _ q => q) fun _ _ q => q
    rcases hb with hb | hb
    · subst hb; exact st b u (cov b u q (nf e) (.inl ⟨_, e⟩))
    · exact st b u (cov b u q (nf hb) (.inl ⟨_, hb⟩))
theorem fly_track {P : Program} {w : World} {l : List Env} {H1 H2 : Hp} {h1 h5 : Heap} {a C : Addr} (un : Un (frs l) [] H1 H2 h1 h5) (hok : HOk P w H2 h5) (na : H2 a = none) (n1 : h1.get? a = none) (e : ExcAt a C h5) :
    Un (frs l) [] H1 (upd H2 a (exO a C)) h1 h5 ∧ HOk P w (upd H2 a (exO a C)) h5 := by
  refine ⟨⟨un.keep, un.slot, fun b o q n hx => ?_, un.there, fun b xs q => ?_, fun b o u q => ?_, fun b ps q => ?_⟩, fun b u q => ?_⟩
  · rw [upd_ne (fun z => by rw [z, n1] at q; cases q)]
    exact un.free b o q n hx
  · have z := un.tups b xs q
    rw [upd_ne (ne_of_none z na)]; exact z
  · have z := un.frzs b o u q
    rw [upd_ne (ne_of_none z na)]; exact z
  · obtain ⟨more, z⟩ := un.tbls b ps q
    exact ⟨more, by rw [upd_ne (ne_of_none z na)]; exact z⟩
  · by_cases hb : b = a
    · subst hb
      rw [upd_same] at q; cases q
      exact exO_ok e
    · rw [upd_ne hb] at q
      exact (hok b u q).stay (fun _ _ _ r => r) (fun c r => by rw [upd_ne (ne_of_none r na)]; exact r) fun c xs r => by rw [upd_ne (ne_of_none r na)]; exact r
end
section
variable {X : Cx} {k : Nat} {f S : Addr} {fd : FuncData} {ps : List Str} {sp : Sp} {dvs : List V} {ds : List Value} {x n c : Str} {fp cp ep np hp pos : Pos} {e : Expr} {es : List Expr} {t : TA} {i : Nat} {b0 : Stmt} {suite : List Stmt} {ts : TS}
noncomputable def tTry (K : PySem.W.Frag) (S : Addr) (i : Nat) (sp : Sp) (dvs : List V) (t : TA) (ts : TS) : TS := fun D σ H => t σ H fun vs H1 => sp (vs ++ dvs) H1 (fun _ H2 => D.nx σ H2)
  (fun cl _ H2 => PySem.W.exmOne K cl (.ref S) = some true ∧ ∀ a C, cl = .ref C → H2 a = none → ts { nx := fun σ' H' => D.nx (σ'.set i none) H', rt := D.rt, bk := fun σ' H' => D.bk (σ'.set i none) H', ct := fun σ' H' => D.ct (σ'.set i none) H' } (σ.set i (some (.ref a))) (upd H2 a (exO a C)))
theorem ps_try (F : FnOk X.prog X.w X.K X.mg X.base (CX1 X.prog X.w) k f fd ps sp) (hr : Room k X.A) (hg : Gl X x) (hm : X.mg x = some (.ref f)) (hk : PySem.W.keepIn X.K (.ref f) = true) (hb : Binds X.K fd ps ds) (hd : Vals dvs ds) (ha : PA X.nox (e :: es) t)
    (hst : X.stack = X.env :: X.outer) (hf : X.env.frame = some X.env.locals) (hN : X.N.Nodup) (hi : X.N[i]? = some n) (hl : X.env.scope.names.lookup n = some .local) (hgc : Gl X c) (hmc : X.mg c = some (.ref S)) (hsu : ∀ a E', PSs (X.marked a E') (b0 :: suite) ts)
    (hdb : (x == ("__debug__" : Str)) = false := by decide) (hdc : (c == ("__debug__" : Str)) = false := by decide) (he : starEach (e :: es) X.env = (false, eval e X.env) :: starEach es X.env := by rfl) (hpl : (backTo cp (starEach es X.env)).any (·.1) = false := by rfl)
    (hs : swapsWith (.Call (.Name x fp) (e :: es) [] cp) none ep.line X.env = pure false := by rfl) :
    PS X (.Try [.Expr (.Call (.Name x fp) (e :: es) [] cp) ep] [.ExceptHandler (some (.Name c np)) (some n) (b0 :: suite) hp] [] [] pos) (tTry X.K S i sp dvs t ts) := by
  intro pins s σ H D I h
  refine wpAny_Try_except (wpAny_execs_cons (wpAny_Expr_any ?_ I.quiet hs))
  refine wpAny_Call_Name_kw (ld_glob I hg hm ?_ hdb)
  refine PySem.W.callWith_K (h₀ := X.base) I.ok.mod.kin hk (wpAny_mono (ha cp pins s σ H _ (I.wish _) h) (fun us s1 z => ?_) fun _ _ z => False.elim z) he hpl
  obtain ⟨vs, H1, I1, r, q⟩ := z
  have I1 := I1.unwish
  refine ⟨I1.kIn, ?_⟩
  have r2 : Vals (vs ++ dvs) (us ++ ds) := r.append hd
  have hlen : (us ++ ds).length = ps.length := by rw [← r2.length]; exact F.len _ _ _ _ q
  refine wpAny_call (codeAny_mono (F.run X.A X.stack s1 H1 ⟨us, []⟩ (us ++ ds) (vs ++ dvs) _ _ hr I1.env0 (hb s1 us I1.kIn hlen) r2 q) fun res s' hq => ?_)
  cases res with
  | ok fl =>
    cases fl with
    | ret u =>
      obtain ⟨v, H2, I2, _, q2⟩ := I1.after hq
      exact wpAny_execs_nil (wpAny_execs_nil ⟨σ, H2, I2, q2⟩)
    | next => exact False.elim hq
    | brk => exact False.elim hq
    | cont => exact False.elim hq
  | error ex =>
    obtain ⟨a, C, tt, B, H2, rfl, hos, bare, un, hok, fl, cov, na, hmt, hts⟩ := hq
    obtain ⟨h2, g', d', t', o'⟩ := s'
    have hos : o' = s1.os := hos
    subst hos
    have I2 : Inv X pins σ H2 ⟨h2, g', d', t', s1.os⟩ := I1.call (ch := []) un hok bare (fun b z => by simp at z)
    have hfr : X.A.frames = some (X.env :: X.outer) := by rw [← hst]; exact I.ok.frames
    have fl' := fl
    rw [hst] at fl'
    have ff : h2.FunFrames B X.stack := fl.2.2.1
    have n1 : s1.heap.get? a = none := by
      cases z : s1.heap.get? a with
      | none => rfl
      | some u =>
        obtain ⟨oe, ws, hoe, _, hod, _⟩ := fl.first
        have nfa : a ∉ frs X.stack := fun y => by
          obtain ⟨_, o', ho', nf⟩ := ff.mem y
          rw [hoe] at ho'; cases ho'
          exact nf _ hod
        have := cov a oe hoe nfa (.inr ⟨u, z⟩)
        rw [fl.2.1] at this; cases this
    have turn : ∀ (h5 : Heap) (tk : Nat), B.StaysIn h5 → h2.UpToSlots h5 → ExcAt a C h5 → Inv X pins σ (upd H2 a (exO a C)) ⟨h5, g', d', tk, s1.os⟩ := fun h5 tk st up ea => by
      obtain ⟨u5, k5⟩ := fly_un un hok (I2.stkFree) ff cov st up
      obtain ⟨u6, k6⟩ := fly_track u5 k5 na n1 ea
      exact I1.call (ch := []) u6 k6 bare (fun b z => by simp at z)
    have seen : ∀ {h5 : Heap} {l : List Env}, Heap.FlyingW B l a (.ref C) (.ref tt) h5 → ExcAt a C h5 := fun z => by
      obtain ⟨oe, ws, hoe, hoc, hod, _⟩ := z.first
      exact ⟨oe, ws, hoe, hoc, hod⟩
    refine wpAny_looks_onW hfr hf fl' fun h4 held4 up4 => ?_
    refine wpAny_landsW held4 fun h5 fl5 up5 => ?_
    have I5 := turn h5 t' fl5.1 (up4.trans up5) (seen fl5)
    refine wpAny_handleBy_cons (codeAny_handlers_test (ld_glob (X := X.marked a fun _ _ => False) (I5.marked a _) hgc hmc ?_ hdc)) (by intro q; cases q)
    have LT : PySem.W.Looks (model X.prog X.w) h5 (typeOf (.ref a)) (.ref C) := by
      obtain ⟨o, _, e1, e2, _⟩ := seen fl5
      exact e2 ▸ (PySem.W.Looks.ld e1).andThen .now
    refine (PySem.W.exm_one (K := X.K) I5.kIn LT hmt).at ?_
    refine codeAny_handlers_suite_as ?_
    refine lands_againW fl5 fun h6 fl6 up6 => ?_
    have I6 := turn h6 t' fl6.1 ((up4.trans up5).trans up6) (seen fl6)
    refine store_ok (v := .ref a) I6 hN hi (.inl hl) rfl (fun s7 I7 => ?_) (.inr hl)
    refine thn (hsu a _ pins s7 _ _ _ (I7.marked a _) (hts a C rfl na)) fun fw s8 q8 => ?_
    cases fw with
    | next =>
      obtain ⟨σ8, H8, I8, q8⟩ := q8
      exact gone_ok (I8.unmarked I.ok) hN hi hl fun s9 I9 => ⟨_, H8, I9, q8⟩
    | brk =>
      obtain ⟨σ8, H8, I8, q8⟩ := q8
      exact gone_ok (I8.unmarked I.ok) hN hi hl fun s9 I9 => ⟨_, H8, I9, q8⟩
    | cont =>
      obtain ⟨σ8, H8, I8, q8⟩ := q8
      exact gone_ok (I8.unmarked I.ok) hN hi hl fun s9 I9 => ⟨_, H8, I9, q8⟩
    | ret u =>
      obtain ⟨v8, σ8, H8, I8, r8, q8⟩ := q8
      exact gone_ok (I8.unmarked I.ok) hN hi hl fun s9 I9 => ⟨v8, _, H8, I9, r8, q8⟩
end
end L2
namespace L2
open PySem PySem.Spec PySem.W PyProof.Rows PySem.Builtin PySem.Builtin.ObjectAttr PySem.Builtin.Getset_descriptor
section
variable {prog : Program} {w : World} {A : Around} {E : Value → Shared → Prop} {K : PySem.W.Frag} {h : Heap} {g : Array GenState} {d : Drawn} {t : Nat} {os : OsState} {a C : Addr}
noncomputable def exCls (K : PySem.W.Frag) (C : Addr) : Bool := findIn K (.ref C) "__getattribute__" == some (some (.builtin "BaseException.__getattribute__")) && findIn K (.ref C) "__getattr__" == some none && findIn K (.ref C) "__class__" == some (some (.builtin "object.__class__")) &&
  mroIn K C (.type "object") == some true && subIn K (.ref C) (.type "BaseException") == some true && (clsIn K C).isSome
theorem exCls_of (e : exCls K C = true) : findIn K (.ref C) "__getattribute__" = some (some (.builtin "BaseException.__getattribute__")) ∧ findIn K (.ref C) "__getattr__" = some none ∧ findIn K (.ref C) "__class__" = some (some (.builtin "object.__class__")) ∧
    mroIn K C (.type "object") = some true ∧ subIn K (.ref C) (.type "BaseException") = some true ∧ (clsIn K C).isSome = true := by
  unfold exCls at e
  simp only [Bool.and_eq_true, beq_iff_eq] at e
  obtain ⟨⟨⟨⟨⟨e1, e2⟩, e3⟩, e4⟩, e5⟩, e6⟩ := e
  exact ⟨e1, e2, e3, e4, e5, e6⟩
theorem exc_ty {M : Model} (p : ExcAt a C h) : Looks M h (typeOf (.ref a)) (.ref C) := by
  obtain ⟨o, _, e1, e2, _⟩ := p
  exact e2 ▸ (Looks.ld e1).andThen .now
theorem exc_clsget {R : Result → Shared → Prop} {tp : Value} (X : K.In h) (p : ExcAt a C h) (e : exCls K C = true) (hq : R (.ok (.ret (.ref C))) ⟨h, g, d, t, os⟩) :
    codeAny (model prog w) A (.call (.builtin "getset_descriptor.__get__") ⟨[.builtin "object.__class__", .ref a, tp], []⟩) R ⟨h, g, d, t, os⟩ := by
  have L0 : Looks (model prog w) h (typeOf (.ref a)) (.ref C) := exc_ty p
  have L1 := looks_mroIn (M := model prog w) X (exCls_of e).2.2.2.1
  refine codeAny_call_builtin (PySem.W.KF.slot_gs.plain) (PySem.W.KF.entry_gs) (PySem.W.KF.slot_gs.check _ _ _ _ _ _ _ _ PySem.W.KF.type_class (PySem.W.KF.args_gs _ _ _) ?_)
  unfold Builtin.«getset_descriptor.__get__»; unfold descrGet
  rw [dga_obj]; refine wpAny_bind (wpAny_pure ?_)
  unfold descrGetter; unfold descrCheckInstance descrNameAndClass; unfold isInstance
  simp only [PySem.W.KF.owner_class]
  repeat lk
  refine ⟨Code.quiet_builtin _ (by decide +kernel), codeAny_builtin (PySem.W.KF.entry_class) ?_⟩
  unfold Builtin.«object.__class__»; unfold shownTypeOf
  repeat lk
  exact hq
theorem exc_clsentry {tk : Tok} {Q : Fin → Shared → Prop} (X : K.In h) (p : ExcAt a C h) (e : exCls K C = true) (hq : Q (.done (.ret (.ref C))) ⟨h, g, d, t, os⟩) :
    wpAny (model prog w) A (Builtin.«object.__getattribute__» ⟨[.ref a, .str "__class__" tk], []⟩) Q E ⟨h, g, d, t, os⟩ := by
  have L0 : Looks (model prog w) h (typeOf (.ref a)) (.ref C) := exc_ty p
  have L1 := looks_findIn (M := model prog w) X (exCls_of e).2.2.1
  have L5 : Looks (model prog w) h (typeOf (.builtin "object.__class__")) (.type "getset_descriptor") := Looks.of_pure F.typeOf_object_class
  have L6 : Looks (model prog w) h (typeLookup (.type "getset_descriptor") "__get__") (some (.builtin "getset_descriptor.__get__")) := Looks.of_pure F.slot_gs_get.lookup
  have L7 := Looks.of_pure (M := model prog w) (h := h) F.slot_gs_set.lookup
  unfold Builtin.«object.__getattribute__»
  repeat ((fail_if_success (with_reducible show wpAny _ _ (call _ _) _ _ _)); (first | lk | wp_step))
  refine wpAny_call (exc_clsget X p e ?_)
  repeat (any_goals (first | assumption | wp_step))
theorem exc_clscall {tk : Tok} {R : Result → Shared → Prop} (X : K.In h) (p : ExcAt a C h) (e : exCls K C = true) (hq : R (.ok (.ret (.ref C))) ⟨h, g, d, t, os⟩) :
    codeAny (model prog w) A (.call (.builtin "BaseException.__getattribute__") ⟨[.ref a, .str "__class__" tk], []⟩) R ⟨h, g, d, t, os⟩ := by
  refine codeAny_call_builtin PySem.F.excAttr_ValueError.ga.plain F.entry_bexc_ga ?_
  have hk : builtinKind "BaseException.__getattribute__" = some .slot := (by decide +kernel)
  have hsplit : splitId "BaseException.__getattribute__" = some ("BaseException", "__getattribute__") := (by decide +kernel)
  have ha := F.args_bexc_ga (.ref a) (.str "__class__" tk)
  have L0 : Looks (model prog w) h (typeOf (.ref a)) (.ref C) := exc_ty p
  have L1 := looks_subIn (M := model prog w) X (exCls_of e).2.2.2.2.1
  simp only [checkBuiltinCall, hk, hsplit]
  refine wpAny_bind ?_
  unfold isInstance
  repeat ((fail_if_success (with_reducible show wpAny _ _ (Builtin.«object.__getattribute__» _) _ _ _)); (first | lk | wp_step))
  refine exc_clsentry X p e ?_
  exact hq
theorem exc_clsattr {Q : Option Value → Shared → Prop} (X : K.In h) (p : ExcAt a C h) (e : exCls K C = true) (hq : Q (some (.ref C)) ⟨h, g, d, t + 1, os⟩) :
    wpAny (model prog w) A (getAttr? (.ref a) "__class__") Q E ⟨h, g, d, t, os⟩ := by
  have L0 : Looks (model prog w) h (typeOf (.ref a)) (.ref C) := exc_ty p
  have L1 := looks_findIn (M := model prog w) X (exCls_of e).1
  have L2 := looks_findIn (M := model prog w) X (exCls_of e).2.1
  have f3 := PySem.F.excAttr_ValueError.ga.bind (.ref a)
  have hx2 : (Value.builtin "BaseException.__getattribute__" == Value.builtin "object.__getattribute__") = false := (by decide +kernel)
  have hx1 : (onTheHeap (Value.ref C) && Value.builtin "BaseException.__getattribute__" == Value.builtin "object.__getattribute__") = false := by
    rw [hx2]; exact Bool.and_false _
  unfold getAttr? getAttrBy?; unfold getAttrBy
  refine wpAny_bind (wpAny_mkText ?_)
  refine wpAny_bind (wpAny_attempt ?_)
  refine wpAny_holding (wpAny_bind (L0.at ?_))
  refine wpAny_bind (L1.at ?_)
  dsimp only
  rw [if_neg (by rw [hx1]; exact Bool.false_ne_true)]
  unfold getAttrByItsOwn
  repeat ((fail_if_success (with_reducible show wpAny _ _ (Sem.attempt _) _ _ _)); (first | lk | wp_step))
  refine wpAny_attempt (wpAny_holding ?_)
  unfold callGetattribute
  rw [if_neg (show ¬ ((false && onTheHeap (Value.builtin "BaseException.__getattribute__")) = true) from Bool.false_ne_true)]
  unfold boundAndCalled
  rw [f3]; refine wpAny_bind (wpAny_pure ?_)
  refine wpAny_call (exc_clscall X p e ?_)
  repeat (any_goals (first | assumption | wp_step))
theorem kitx_exc (e : exCls K C = true) : KitX K (.ref a) (.ref C) (ExcAt a C) where
  ty := fun _ _ _ p => exc_ty p
  it := fun _ _ X _ => by
    obtain ⟨cd, hc⟩ := Option.isSome_iff_exists.mp (exCls_of e).2.2.2.2.2
    unfold clsIn at hc
    split at hc
    case h_1 ho =>
      intro A' Q' E' s' k q
      unfold isType; unfold loadHead
      exact wpAny_bind (wpAny_loadPart (k _ _ (X _ _ ho)) (wpAny_pure q))
    case h_2 => cases hc
  ne := fun h tp dd its n sl X htp => by
    obtain ⟨cd, hc⟩ := Option.isSome_iff_exists.mp (exCls_of e).2.2.2.2.2
    refine Bool.eq_false_iff.mpr fun q => ?_
    have z : C = tp := Value.ref.inj (beq_iff_eq.mp q)
    subst z
    unfold clsIn at hc
    split at hc
    case h_1 ho => cases (X _ _ ho).symm.trans htp
    case h_2 => cases hc
  ca := fun {_ _ _ _ _ s} X p k => by
    obtain ⟨h, g, d, t, os⟩ := s
    exact exc_clsattr X p e k
end
section
variable {X : Cx}
noncomputable def IsiX (K : PySem.W.Frag) (xs : List V) (H : Hp) (Q : VK) : Prop := ∃ (a C : Addr) (v : V) (u : Value) (b : Bool), xs = [.ref a, v] ∧ (∀ u', RelV v u' → u' = u) ∧ H a = some (exO a C) ∧ exCls K C = true ∧ kitOne K (.ref C) u = some b ∧ Q (.bl b) H
theorem call_isiX : CallR X (.builtin "isinstance") (IsiX X.K) := by
  intro pins s σ H xs us Q I r h
  obtain ⟨a, C, v, u, b, rfl, hu, ha, ec, eb, q⟩ := h
  obtain ⟨u1, u2, rfl, r1, r2⟩ := vals2 r
  cases hu _ r2
  have r1 : u1 = Value.ref a := r1
  subst r1
  obtain ⟨p, _⟩ := I.hok a _ ha
  exact kia_one (kitx_exc ec) I.kIn p eb (fun z => nomatch z) fun tk => ⟨.bl b, H, I.tok tk, rfl, q⟩
end
end L2
namespace K49
open PySem L2 K02
noncomputable def top (i : Nat) : Stmt := PySem.Challenge.pw_skewbooks_k49_no_houses_to_mend.main.body.getD i (.Pass ⟨0, 0, 0, 0⟩)
noncomputable abbrev sName : Stmt := top 19
noncomputable abbrev sHouseNames : Stmt := top 23
noncomputable abbrev sHasHouse : Stmt := top 24
noncomputable abbrev sMend : Stmt := top 42
noncomputable abbrev sMixed : Stmt := top 44
noncomputable abbrev sPack : Stmt := top 45
noncomputable abbrev sTake : Stmt := top 46
noncomputable abbrev sNames : Stmt := top 47
noncomputable abbrev sMkHouse : Stmt := top 48
noncomputable abbrev sMkLetters : Stmt := top 49
noncomputable abbrev sMkLedger : Stmt := top 50
noncomputable abbrev sBent : Stmt := top 51
noncomputable abbrev sRows : Stmt := top 52
noncomputable abbrev sDrawn : Stmt := top 53
noncomputable abbrev sOnly : Stmt := top 54
noncomputable abbrev sRefused : Stmt := top 55
noncomputable abbrev sLaw : Stmt := top 56
structure Txt (mg : Str → Option Value) (t8 : Tok) : Prop where
  isi : mg "isinstance" = none
  int : mg "int" = none
  bool : mg "bool" = none
  str : mg "str" = none
  tuple : mg "tuple" = none
  len : mg "len" = none
  all : mg "all" = none
  zip : mg "zip" = none
  set : mg "set" = none
  sorted : mg "sorted" = none
  divmod : mg "divmod" = none
  range : mg "range" = none
  max : mg "max" = none
  min : mg "min" = none
  abs : mg "abs" = none
  list : mg "list" = none
  valErr : mg "ValueError" = none
  most : mg "LONGEST_NAME" = some (.int 8 t8)
section
variable {P : Program} {w : World} {K : PySem.W.Frag} {mg : Str → Option Value} {base : Heap} {t8 : Tok}
theorem scName : FnScope ["thing"] ["thing"] (defScope sName) := ⟨rfl, rfl, rfl, by decide +kernel, rfl, by decide +kernel, by decide +kernel⟩
theorem ok_name {f : Addr} {fd : FuncData} (F : Fun K "is_name" "is_name" sName f fd) (T : Txt mg t8) : FnOk P w K mg base CX0 1 f fd ["thing"] (spName K) := by
  refine F.ok scName (fun vs H Q E h => ?_) (fun cdv A outer s H vs Q E hr h => ?_)
  · obtain ⟨x, rfl, _⟩ := h
    rfl
  · obtain ⟨x, rfl, ⟨⟨T', ty⟩, hz⟩, q⟩ := h
    refine ⟨_, pss_cons (ps_if (ptOr (pt_not (ptV (pe_callB call_isi rfl T.isi PyProof.Rows.boot_isinstance (pa_cons (pV 0) (pa_cons (pe_bltn (v := .ty "str") rfl T.str PyProof.Rows.boot_str rfl) pa_nil)))))
        (pw_or1 (pt_not (ptCh oLe oLe pe_int (pe_callB call_len_str rfl T.len PySem.boot_len (pa_cons (pV 0) pa_nil)) (pe_glob (v := .int 8) rfl T.most ⟨_, rfl⟩))))) (pss_one (ps_ret pe_bl)) pss_nil)
      (pss_one (ps_ret (pe_callB (call_all rfl) rfl T.all PyProof.Rows.boot_all (pa_cons (pe_comp (scX := defScope sName) (own := ["sign"]) (cap := []) (ix := []) rfl rfl ⟨rfl, by decide +kernel, by decide +kernel, by decide +kernel, rfl, by decide +kernel⟩
        (pi_str (pV 0)) (fun b => pg_name (i := 0) (show (["sign"] : List Str).Nodup by decide +kernel) rfl (Or.inl rfl)) (fun b => pif_nil) (fun b => peCh oLeS oLeS pe_str (pV 0) pe_str)) pa_nil)))), ?_⟩
    obtain ⟨_, _, k3, _⟩ := kit8 ty
    refine ⟨x, _, _, _, rfl, ty, k3, ?_⟩
    cases q1 : sub8 T' "str" with
    | false =>
      have e : isN x = false := by cases ty <;> first | rfl | exact absurd q1 (by decide)
      rw [e] at q
      exact q H (Same.refl H)
    | true =>
      obtain ⟨z, rfl⟩ : ∃ z, x = .str z := by cases ty <;> first | exact ⟨_, rfl⟩ | exact absurd q1 (by decide)
      have hz' := hz z rfl
      refine ⟨z, rfl, hz', ?_⟩
      refine ite2 (fun h1 => ?_) (fun h1 => ?_)
      · have h1' : 1 ≤ z.length := by have := of_decide_eq_true h1; omega
        refine ite2 (fun h2 => ?_) (fun h2 => ?_)
        · have e : isN (.str z) = false := by
            have h2' : ¬ z.length ≤ 8 := by
              intro h
              have : decide ((z.length : Int) ≤ 8) = true := decide_eq_true (by omega)
              rw [this] at h2; cases h2
            simp [isN, h2']
          rw [e] at q
          exact q H (Same.refl H)
        · have h2' : z.length ≤ 8 := by
            have : ¬ ¬ (z.length : Int) ≤ 8 := fun h => h2 (by rw [decide_eq_false h]; rfl)
            omega
          refine ⟨z, rfl, fun D hD => comp_str (fun i H' => Grow H H' D ((z.cps.toList.take i).map fun c => V.bl (low c))) (Grow.start hD) (fun H' G => ?_) (fun i c H' hc hi G b => ?_)⟩
          · refine ⟨D, z.cps.toList.map low, rfl, SqL.of (by rw [G.at', take_all (by simp), List.map_map]; rfl), ?_⟩
            have e : isN (.str z) = (z.cps.toList.map low).all id := by
              simp [isN, h1', h2', List.all_map]
            rw [e] at q
            exact q H' G.same
          · have hl := low_of c
            have sz : z.cps.size ≤ sizeLine := hz'
            have fin : ∀ (k : Bool), k = low c → Nx z.cps.size i (fun i H' => Grow H H' D ((z.cps.toList.take i).map fun c => V.bl (low c))) (upd H' D (.lst ((z.cps.toList.take i).map (fun c => V.bl (low c)) ++ [.bl k]))) := fun k hk => by
              subst hk
              refine nx hi ?_
              show Grow H _ D ((z.cps.toList.take (i + 1)).map fun c => V.bl (low c))
              rw [take_map (cps_get hc)]
              exact G.put hD _
            refine ite2 (fun h3 => ?_) (fun h3 => ?_)
            · refine ⟨_, G.at', len_take hi sz, fin _ ?_⟩
              have h3' : decide (97 ≤ c) = true := hl.1.symm.trans h3
              show (!decide (("z" : Str).cps.toList < (⟨#[c]⟩ : Str).cps.toList)) = low c
              rw [hl.2]
              simp [low, of_decide_eq_true h3']
            · refine ⟨_, G.at', len_take hi sz, fin _ ?_⟩
              have h3' : ¬ 97 ≤ c := fun h => h3 (hl.1.trans (decide_eq_true h))
              simp [low, h3']
      · have e : isN (.str z) = false := by
          have h1' : ¬ 1 ≤ z.length := by
            intro h
            exact h1 (decide_eq_true (by omega))
          simp [isN, h1']
        rw [e] at q
        exact q H (Same.refl H)
theorem sc_mixed : FnScope ["_law_cell"] ["_law_cell"] (defScope sMixed) := ⟨rfl, rfl, rfl, by decide +kernel, rfl, by decide +kernel, by decide +kernel⟩
theorem ok_mixed {f : Addr} {fd : FuncData} (F : Fun K "_law_mixed" "_law_mixed" sMixed f fd) : FnOk P w K mg base CX0 1 f fd ["_law_cell"] spMixed := by
  refine F.ok sc_mixed (fun vs H Q E h => ?_) (fun cdv A outer s H vs Q E hr h => ?_)
  · obtain ⟨c, rfl, _⟩ := h
    rfl
  · obtain ⟨c, rfl, hb, q⟩ := h
    refine ⟨_, (pss_one (ps_ret (pe_op oMod (pe_op oMulB (pV 0) pe_int) (pe_op oPow pe_int pe_int)))), ?_⟩
    refine ⟨IntMulOk.of_le (m := 2000000) (n := 400) hb (by decide +kernel) (by decide), ?_⟩
    refine ⟨⟨by decide, by decide, by decide⟩, by show (0 : Int) < 10 ^ Int.toNat 60; decide +kernel, ?_⟩
    exact q _ (Int.emod_nonneg _ (by decide +kernel))
theorem sc_pack : FnScope ["_law_script", "_law_k"] ["_law_script", "_law_k"] (defScope sPack) := ⟨rfl, rfl, rfl, by decide +kernel, rfl, by decide +kernel, by decide +kernel⟩
theorem ok_pack {f f_mixed : Addr} {fd fd_mixed : FuncData} (F : Fun K "_law_pack" "_law_pack" sPack f fd) (T : Txt mg t8)
    (G_mixed : FnOk P w K mg base CX0 1 f_mixed fd_mixed ["_law_cell"] spMixed) (m_mixed : mg "_law_mixed" = some (.ref f_mixed)) (k_mixed : PySem.W.keepIn K (.ref f_mixed) = true) (b_mixed : Binds K fd_mixed ["_law_cell"] []) : FnOk P w K mg base CX0 2 f fd ["_law_script", "_law_k"] (spPack K) := by
  refine F.ok sc_pack (fun vs H Q E h => ?_) (fun cdv A outer s H vs Q E hr h => ?_)
  · obtain ⟨a, ns, k, rfl, _⟩ := h
    rfl
  · obtain ⟨a, ns, k, rfl, ha, hb, hl, k0, k1, q⟩ := h
    have small : ∀ z : Int, 0 ≤ z → z ≤ 10000000 → Builtin.Int.intBits z ≤ 1048576 := fun z z0 z1 => Nat.le_trans (intBits_le_64 (by omega) (by omega)) (by decide)
    have fin : ∀ n : Int, 0 ≤ n → tLst (tCons (tC (.int n)) tNil) ([] : St) H Q := fun n n0 => ⟨by show 1 ≤ sizeLine; rw [sizeLine_eq]; decide, fun p hp => q p _ hp ⟨n, upd_same, n0⟩ ((Same.refl H).upd hp)⟩
    refine ⟨_, (pss_cons (ps_if (ptC oLt (pV 1) (pe_callB call_len_seq rfl T.len PySem.boot_len (pa_cons (pV 0) pa_nil)) (nomark _)) (pss_one (ps_ret (pe_lst (pa_cons (pe_call G_mixed hr rfl m_mixed k_mixed b_mixed .nil pass0 (pa_cons (pe_op oAdd (pe_ix iIx (pV 0) (pV 1) (fun _ _ => rfl)) (pe_op oMul pe_int (pV 1))) pa_nil)) pa_nil)))) pss_nil) (pss_one (ps_ret (pe_lst (pa_cons (pe_call G_mixed hr rfl m_mixed k_mixed b_mixed .nil pass0 (pa_cons (pe_op oAdd (pe_op oMul pe_int (pV 1)) pe_int) pa_nil)) pa_nil))))), ?_⟩
    refine ⟨a, _, rfl, .inl ha, ?_⟩
    refine ite2 (fun z => ?_) (fun z => ?_)
    · have lt : k < ((ns.map V.int).length : Int) := of_decide_eq_true z
      obtain ⟨j, rfl⟩ := Int.eq_ofNat_of_zero_le k0
      rw [List.length_map] at lt
      have hj : ns[j]? = some ns[j] := List.getElem?_eq_getElem (by omega)
      refine ixAtS ha (v := .int ns[j]) (atI_nat (by rw [List.getElem?_map, hj]; rfl)) ?_
      refine ⟨.inl ⟨by decide, by decide⟩, ?_⟩
      have b1 := intBits_add_le (hb ns[j] (List.mem_of_getElem? hj)) (small (23 * (j : Int)) (by omega) (by omega))
      refine ⟨_, rfl, Nat.le_trans b1 (by decide), fun n n0 => ?_⟩
      exact fin n n0
    · refine ⟨.inl ⟨by decide, by decide⟩, ?_⟩
      refine ⟨_, rfl, Nat.le_trans (small (5099 * k + 7) (by omega) (by omega)) (by decide), fun n n0 => ?_⟩
      exact fin n n0
theorem sc_take : FnScope ["_law_pack_here", "_law_size", "_law_digit"] ["_law_pack_here", "_law_size"] (defScope sTake) := ⟨rfl, rfl, rfl, by decide +kernel, rfl, by decide +kernel, by decide +kernel⟩
theorem ok_take {f : Addr} {fd : FuncData} (F : Fun K "_law_take" "_law_take" sTake f fd) (T : Txt mg t8) : FnOk P w K mg base CX0 1 f fd ["_law_pack_here", "_law_size"] spTake := by
  refine F.ok sc_take (fun vs H Q E h => ?_) (fun cdv A outer s H vs Q E hr h => ?_)
  · obtain ⟨p, m, rfl, _⟩ := h
    rfl
  · obtain ⟨p, m, rfl, ⟨n, hp, n0⟩, m0, m1, q⟩ := h
    refine ⟨_, (pss_cons (ps_asg (pe_callB call_divmod rfl T.divmod PyProof.Rows.boot_divmod (pa_cons (pe_ix iIx (pV 0) pe_int (fun _ _ => rfl)) (pa_cons (pV 1) pa_nil))) (pg_tup rfl (pgs_cons (pg_sub (pV 0) pe_int iSet) (pgs_cons (pg_name (i := 2) sc_take.nd rfl (Or.inl rfl)) pgs_nil)))) (pss_one (ps_ret (pV 2)))), ?_⟩
    refine ixAt hp (i := 0) (by rfl) ?_
    refine ⟨n, m, rfl, ⟨m0, m1⟩, fun t ht => ?_⟩
    have ne : p ≠ t := ne_of_none hp ht
    refine ⟨t, _, rfl, SqT.of upd_same, rfl, _, _, rfl, ?_⟩
    refine setAt (j := 0) (show upd H t (.tup [.int (n / m), .int (n % m)]) p = some (.lst [.int n]) by rw [upd_ne ne]; exact hp) (by rfl) ?_
    refine ⟨_, _, rfl, rfl, ?_⟩
    refine q _ _ (Int.emod_nonneg n (by omega)) (Int.emod_lt_of_pos n m0) ⟨n / m, upd_same, Int.ediv_nonneg n0 (by omega)⟩ ?_
    exact ((SameB.of (Same.refl H)).new ht).upd
theorem sc_names : FnScope ["_law_pack_here", "_law_amount", "_law_letters_here", "_law_turn", "_law_pick", "_law_size"] ["_law_pack_here", "_law_amount"] (defScope sNames) := ⟨rfl, rfl, rfl, by decide +kernel, rfl, by decide +kernel, by decide +kernel⟩
theorem ok_names {f f_take : Addr} {fd fd_take : FuncData} (F : Fun K "_law_names" "_law_names" sNames f fd) (T : Txt mg t8)
    (G_take : FnOk P w K mg base CX0 1 f_take fd_take ["_law_pack_here", "_law_size"] spTake) (m_take : mg "_law_take" = some (.ref f_take)) (k_take : PySem.W.keepIn K (.ref f_take) = true) (b_take : Binds K fd_take ["_law_pack_here", "_law_size"] []) : FnOk P w K mg base CX0 2 f fd ["_law_pack_here", "_law_amount"] spNames := by
  refine F.ok sc_names (fun vs H Q E h => ?_) (fun cdv A outer s H vs Q E hr h => ?_)
  · obtain ⟨p, rfl, _⟩ := h
    rfl
  · obtain ⟨p, rfl, hp, q⟩ := h
    have sl0 : sizeLine = 16777216 := sizeLine_eq
    refine ⟨_, (pss_cons (ps_set (i := 2) sc_names.nd rfl (Or.inr rfl) pe_str) (pss_cons (ps_set (i := 3) sc_names.nd rfl (Or.inl rfl) (pe_call G_take hr rfl m_take k_take b_take .nil pass0 (pa_cons (pV 0) (pa_cons pe_int pa_nil)))) (pss_cons (ps_set (i := 2) sc_names.nd rfl (Or.inr rfl) (pe_op oCat (pe_slice iSlS (pV 2) (poI (pV 3)) po_none) (pe_slice iSlS (pV 2) po_none (poI (pV 3))))) (pss_cons (ps_set (i := 4) sc_names.nd rfl (Or.inl rfl) (pe_call G_take hr rfl m_take k_take b_take .nil pass0 (pa_cons (pV 0) (pa_cons pe_int pa_nil)))) (pss_cons (ps_set (i := 5) sc_names.nd rfl (Or.inr rfl) (pe_call G_take hr rfl m_take k_take b_take .nil pass0 (pa_cons (pV 0) (pa_cons pe_int pa_nil)))) (pss_cons (ps_if (ptC oEq (pV 4) pe_int (nomark _)) (pss_one (ps_ret (pe_comp (scX := defScope sNames) (own := ["_law_k"]) (cap := ["_law_letters_here"]) (ix := [2]) rfl rfl ⟨rfl, by decide +kernel, by decide +kernel, by decide +kernel, rfl, by decide +kernel⟩ (pi_range1 rfl T.range (pa_cons (pV 1) pa_nil)) (fun b => (pg_name (i := 0) (show (["_law_k", "_law_letters_here"] : List Str).Nodup by decide +kernel) rfl (Or.inl rfl))) (fun b => pif_nil) (fun b => (pe_op op_mulS (pe_ix iIxS (pV 1) (pe_op oDiv (pV 0) pe_int) (fun _ _ => rfl)) (pe_op oAdd pe_int (pe_op oMod (pV 0) pe_int))))))) pss_nil) (pss_cons (ps_if (ptC oEq (pV 4) pe_int (nomark _)) (pss_one (ps_ret (pe_comp (scX := defScope sNames) (own := ["_law_k"]) (cap := ["_law_letters_here", "_law_size"]) (ix := [2, 5]) rfl rfl ⟨rfl, by decide +kernel, by decide +kernel, by decide +kernel, rfl, by decide +kernel⟩ (pi_range1 rfl T.range (pa_cons (pV 1) pa_nil)) (fun b => (pg_name (i := 0) (show (["_law_k", "_law_letters_here", "_law_size"] : List Str).Nodup by decide +kernel) rfl (Or.inl rfl))) (fun b => pif_nil) (fun b => (pe_op oCat (pe_ix iIxS (pV 1) (pe_op oMod (pV 0) pe_int) (fun _ _ => rfl)) (pe_slice iSlS (pV 1) (poI pe_int) (poI (pe_op oAdd pe_int (pV 2))))))))) pss_nil) (pss_one (ps_ret (pe_comp (scX := defScope sNames) (own := ["_law_k"]) (cap := ["_law_letters_here", "_law_size"]) (ix := [2, 5]) rfl rfl ⟨rfl, by decide +kernel, by decide +kernel, by decide +kernel, rfl, by decide +kernel⟩ (pi_range1 rfl T.range (pa_cons (pV 1) pa_nil)) (fun b => (pg_name (i := 0) (show (["_law_k", "_law_letters_here", "_law_size"] : List Str).Nodup by decide +kernel) rfl (Or.inl rfl))) (fun b => pif_nil) (fun b => (pe_op oCat (pe_slice iSlS (pV 1) (poI pe_int) (poI (pe_op oAdd pe_int (pV 2)))) (pe_ix iIxS (pV 1) (pe_op oMod (pV 0) pe_int) (fun _ _ => rfl)))))))))))))), ?_⟩
    refine ⟨p, 26, rfl, hp, by decide, by decide, fun t H1 t0 t1 hp1 s1 => ?_⟩
    obtain ⟨t, rfl⟩ := Int.eq_ofNat_of_zero_le t0
    have ht : t < 26 := by omega
    have la : abc.length ≤ sizeLine := by rw [abc_len]; omega
    refine slStr (z := abc) la ?_
    refine slStr (z := abc) la ?_
    have rt := rot_text (t := t) (by omega)
    refine ⟨by
      have z1 := PySem.Txt.slice_le abc (some (t : Int)) none
      have z2 := PySem.Txt.slice_le abc none (some (t : Int))
      rw [abc_len] at z1 z2
      omega, ?_⟩
    generalize PySem.Txt.slice abc (some (t : Int)) none ++ PySem.Txt.slice abc none (some (t : Int)) = R at rt
    have lR : R.length = 26 := by rw [← len_list, rt]; exact rot_len (by omega)
    refine ⟨p, 3, rfl, hp1, by decide, by decide, fun pk H2 p0 p1 hp2 s2 => ?_⟩
    obtain ⟨pick, rfl⟩ := Int.eq_ofNat_of_zero_le p0
    refine ⟨p, 8, rfl, hp2, by decide, by decide, fun sz H3 z0 z1 hp3 s3 => ?_⟩
    obtain ⟨size, rfl⟩ := Int.eq_ofNat_of_zero_le z0
    have s13 : SameB p H H3 := (s1.trans s2).trans s3
    obtain ⟨ok1, ok2⟩ := namesL_ok (t := t) (sz := size) (pick := pick) ht (by omega) (by omega)
    have ok3 := namesL_q (t := t) (sz := size) (pick := pick) ht (by omega) (by omega)
    have fin : ∀ (D : Addr) (H' : Hp), H3 D = none → Grow H3 H' D ((namesL t size pick).map V.str) → Q (.ref D) H' := fun D H' hD G => by
      refine q D (namesL t size pick) H' ?_ G.at' (by unfold namesL; rw [List.length_map, List.length_range]) ok1 ok2 ok3 (by obtain ⟨n, e, n0⟩ := hp3; exact ⟨n, G.same _ _ e, n0⟩) (s13.trans (SameB.of G.same))
      cases e : H D with
      | none => rfl
      | some o =>
        have nD : D ≠ p := fun z => by
          obtain ⟨n, e', _⟩ := hp3
          rw [← z, hD] at e'; cases e'
        have := s13 D o nD e
        rw [hD] at this; cases this
    have step : ∀ (i : Nat), i < 12 → (namesL t size pick).take (i + 1) = (namesL t size pick).take i ++ [nameS t size pick i] := fun i hi => by
      have e : (namesL t size pick)[i]? = some (nameS t size pick i) := by unfold namesL; rw [List.getElem?_map, List.getElem?_range hi]; rfl
      rw [List.take_add_one, e]; rfl
    have lenN : (namesL t size pick).length = 12 := by unfold namesL; rw [List.length_map, List.length_range]
    have put : ∀ (i : Nat) (D : Addr) (H' : Hp) (z : Str), i < 12 → H3 D = none → Grow H3 H' D (((namesL t size pick).take i).map V.str) → z.cps.toList = nameL t size pick i → ∃ zs, H' D = some (.lst zs) ∧ zs.length < sizeLine ∧ Nx 12 i (fun i H' => Grow H3 H' D (((namesL t size pick).take i).map V.str)) (upd H' D (.lst (zs ++ [.str z]))) := fun i D H' z hi hD G ez => by
      refine ⟨_, G.at', by rw [List.length_map, List.length_take]; omega, nx hi ?_⟩
      show Grow H3 _ D (((namesL t size pick).take (i + 1)).map V.str)
      have ez' : z = nameS t size pick i := by
        cases z with
        | mk c => unfold nameS; congr 1; rw [← ez]
      rw [step i hi, List.map_append, ez']
      exact G.put hD _
    have all : ((namesL t size pick).take 12).map V.str = (namesL t size pick).map V.str := by rw [List.take_of_length_le (by omega)]
    have cutR : (PySem.Txt.slice R (some 4) (some (4 + (size : Int)))).cps.toList = ((rot t).drop 4).take size := by
      have e : PySem.Txt.slice R (some ((4 : Nat) : Int)) (some ((4 + size : Nat) : Int)) = _ := slice_mid R 4 (4 + size)
      have e2 : PySem.Txt.slice R (some 4) (some (4 + (size : Int))) = ⟨((R.cps.toList.take (4 + size)).drop 4).toArray⟩ := e
      rw [e2, rt, List.drop_take]
      simp
    have cutL : (PySem.Txt.slice R (some 4) (some (4 + (size : Int)))).length ≤ 26 := by rw [← lR]; exact PySem.Txt.slice_le R _ _
    refine ite2 (fun c1 => ?_) (fun c1 => ?_)
    · have pk0 : pick = 0 := by have := of_decide_eq_true c1; omega
      refine ⟨12, rfl, by decide, by decide, fun D hD => comp_range (lo := 0) (n := 12) (fun i H' => Grow H3 H' D (((namesL t size pick).take i).map V.str)) (Grow.start hD) (fun H' G => fin D H' hD (by rw [← all]; exact G)) (fun i H' hi G b => ?_)⟩
      refine ⟨⟨by decide, by decide⟩, ?_⟩
      refine ixStr (z := R) (by omega) (by rw [rt]; exact atI_getD (by omega) (by rw [rot_len (by omega)]; omega)) ?_
      refine ⟨by show (0 : Int) < 8; decide, ?_⟩
      refine ⟨_, _, rfl, rfl, by omega, by omega, ?_⟩
      refine put i D H' _ hi hD G ?_
      subst pk0
      unfold nameL
      rw [if_pos rfl]
      show List.replicate _ _ = _
      congr 1
      · omega
      · congr 1; omega
    · refine ite2 (fun c2 => ?_) (fun c2 => ?_)
      · have pk1 : pick = 1 := by have := of_decide_eq_true c2; omega
        refine ⟨12, rfl, by decide, by decide, fun D hD => comp_range (lo := 0) (n := 12) (fun i H' => Grow H3 H' D (((namesL t size pick).take i).map V.str)) (Grow.start hD) (fun H' G => fin D H' hD (by rw [← all]; exact G)) (fun i H' hi G b => ?_)⟩
        refine ⟨by show (0 : Int) < 26; decide, ?_⟩
        refine ixStr (z := R) (by omega) (by rw [rt]; exact atI_getD (by omega) (by rw [rot_len (by omega)]; omega)) ?_
        refine slStr (z := R) (by omega) ?_
        refine ⟨by show 1 + _ ≤ sizeLine; omega, ?_⟩
        refine put i D H' _ hi hD G ?_
        subst pk1
        rw [app_list, cutR]
        unfold nameL
        rw [if_neg (by decide), if_pos rfl]
        have ei : ((0 + (i : Int)) % 26).toNat = i % 26 := by omega
        show (rot t).getD ((0 + (i : Int)) % 26).toNat 0 :: _ = _
        rw [ei]
        rfl
      · have pk2 : pick ≠ 0 ∧ pick ≠ 1 := ⟨fun e => c1 (decide_eq_true (by rw [e]; rfl)), fun e => c2 (decide_eq_true (by rw [e]; rfl))⟩
        refine ⟨12, rfl, by decide, by decide, fun D hD => comp_range (lo := 0) (n := 12) (fun i H' => Grow H3 H' D (((namesL t size pick).take i).map V.str)) (Grow.start hD) (fun H' G => fin D H' hD (by rw [← all]; exact G)) (fun i H' hi G b => ?_)⟩
        refine slStr (z := R) (by omega) ?_
        refine ⟨by show (0 : Int) < 26; decide, ?_⟩
        refine ixStr (z := R) (by omega) (by rw [rt]; exact atI_getD (by omega) (by rw [rot_len (by omega)]; omega)) ?_
        refine ⟨by show _ + 1 ≤ sizeLine; omega, ?_⟩
        refine put i D H' _ hi hD G ?_
        rw [app_list, cutR]
        unfold nameL
        rw [if_neg pk2.1, if_neg pk2.2]
        congr 1
        show [_] = [_]
        congr 2; omega
end
end K49
namespace K49
open PySem L2 K02
section
variable {P : Program} {w : World} {K : PySem.W.Frag} {mg : Str → Option Value} {base : Heap} {t8 : Tok}
theorem sc_mkhouse : FnScope ["_law_pack_here", "_law_name", "_law_names_here", "_law_room", "_law_low", "_law_wide", "_law_drift", "_law_moment", "_law_runs", "_law_hidden", "_law_at", "_law_turn", "_law_off", "_law_rows_here", "_law_step", "_law_reading"] ["_law_pack_here", "_law_name", "_law_names_here", "_law_room"] (defScope sMkHouse) := ⟨rfl, rfl, rfl, by decide +kernel, rfl, by decide +kernel, by decide +kernel⟩
theorem ok_mkhouse {f f_take : Addr} {fd fd_take : FuncData} (F : Fun K "_law_house" "_law_house" sMkHouse f fd) (T : Txt mg t8)
    (G_take : FnOk P w K mg base CX0 1 f_take fd_take ["_law_pack_here", "_law_size"] spTake) (m_take : mg "_law_take" = some (.ref f_take)) (k_take : PySem.W.keepIn K (.ref f_take) = true) (b_take : Binds K fd_take ["_law_pack_here", "_law_size"] []) : FnOk P w K mg base CX0 2 f fd ["_law_pack_here", "_law_name", "_law_names_here", "_law_room"] spMkHouse := by
  refine F.ok sc_mkhouse (fun vs H Q E h => ?_) (fun cdv A outer s H vs Q E hr h => ?_)
  · obtain ⟨p, nm, ln, ss, room, rfl, _⟩ := h
    rfl
  · obtain ⟨p, nm, ln, ss, room, rfl, hp, gn, hln, few, nd, gs, q⟩ := h
    have sl0 : sizeLine = 16777216 := sizeLine_eq
    have nln : ln ≠ p := fun z => by
      obtain ⟨n, e, _⟩ := hp
      rw [z, e] at hln
      cases ss with
      | nil => cases hln
      | cons s ss => cases hln
    refine ⟨_, (pss_cons (ps_set (i := 4) sc_mkhouse.nd rfl (Or.inl rfl) (pe_op oSub (pe_call G_take hr rfl m_take k_take b_take .nil pass0 (pa_cons (pV 0) (pa_cons pe_int pa_nil))) pe_int)) (pss_cons (ps_set (i := 5) sc_mkhouse.nd rfl (Or.inl rfl) (pe_ix iIx (pe_lst (pa_cons pe_int (pa_cons pe_int (pa_cons pe_int (pa_cons pe_int pa_nil))))) (pe_call G_take hr rfl m_take k_take b_take .nil pass0 (pa_cons (pV 0) (pa_cons pe_int pa_nil))) (fun _ _ => rfl))) (pss_cons (ps_set (i := 6) sc_mkhouse.nd rfl (Or.inl rfl) (pe_ix iIx (pe_lst (pa_cons pe_int (pa_cons pe_int (pa_cons pe_int (pa_cons pe_int pa_nil))))) (pe_call G_take hr rfl m_take k_take b_take .nil pass0 (pa_cons (pV 0) (pa_cons pe_int pa_nil))) (fun _ _ => rfl))) (pss_cons (ps_set (i := 7) sc_mkhouse.nd rfl (Or.inl rfl) (pe_op oSub (pe_call G_take hr rfl m_take k_take b_take .nil pass0 (pa_cons (pV 0) (pa_cons pe_int pa_nil))) pe_int)) (pss_cons (ps_set (i := 8) sc_mkhouse.nd rfl (Or.inl rfl) (pe_lst pa_nil)) (pss_cons (ps_set (i := 9) sc_mkhouse.nd rfl (Or.inl rfl) pe_dnewK) (pss_cons (ps_set (i := 10) sc_mkhouse.nd rfl (Or.inl rfl) pe_int) (pss_cons (ps_for PassesOwn.never rfl (pi_range1 rfl T.range (pa_cons (pe_call G_take hr rfl m_take k_take b_take .nil pass0 (pa_cons (pV 0) (pa_cons pe_int pa_nil))) pa_nil)) (pg_name (i := 11) sc_mkhouse.nd rfl (Or.inl rfl)) (pss_cons (ps_set (i := 12) sc_mkhouse.nd rfl (Or.inl rfl) (pe_op oAdd (pV 4) (pe_call G_take hr rfl m_take k_take b_take .nil pass0 (pa_cons (pV 0) (pa_cons (pe_op oAdd (pV 5) pe_int) pa_nil))))) (pss_cons (ps_set (i := 13) sc_mkhouse.nd rfl (Or.inl rfl) (pe_lst pa_nil)) (pss_cons (ps_for PassesOwn.never rfl (pi_range1 rfl T.range (pa_cons (pe_op oAdd pe_int (pe_call G_take hr rfl m_take k_take b_take .nil pass0 (pa_cons (pV 0) (pa_cons pe_int pa_nil)))) pa_nil)) (pg_name (i := 14) sc_mkhouse.nd rfl (Or.inl rfl)) (pss_one (ps_if (ptAnd (ptC oLt (pV 10) (pV 3) (nomark _)) (pw_and1 (ptC oLt (pV 10) (pe_callB call_len_seq rfl T.len PySem.boot_len (pa_cons (pV 2) pa_nil)) (nomark _)))) (pss_cons (ps_set (i := 7) sc_mkhouse.nd rfl (Or.inl rfl) (pe_op oAdd (pe_op oAdd (pV 7) pe_int) (pe_call G_take hr rfl m_take k_take b_take .nil pass0 (pa_cons (pV 0) (pa_cons pe_int pa_nil))))) (pss_cons (ps_set (i := 15) sc_mkhouse.nd rfl (Or.inl rfl) (pe_op oAdd (pV 7) (pV 12))) (pss_cons (ps_if (ptAnd (ptC (oNeNil hr.units) (pV 13) (pe_lst pa_nil) (nomark _)) (pw_and (ptC oLe (pe_op oAdd (pV 12) pe_int) (pe_op oAdd (pV 4) (pV 5)) (nomark _)) (pw_and (ptC oEq (pe_call G_take hr rfl m_take k_take b_take .nil pass0 (pa_cons (pV 0) (pa_cons pe_int pa_nil))) pe_int (nomark _)) (pw_and1 (ptC oGt (pV 6) pe_int (nomark _)))))) (pss_one (ps_set (i := 15) sc_mkhouse.nd rfl (Or.inl rfl) (pe_op oAdd (pV 15) pe_int))) pss_nil) (pss_cons (ps_if (ptAnd (ptC (oNeNil hr.units) (pV 13) (pe_lst pa_nil) (nomark _)) (pw_and1 (ptC oLe (pV 15) (pe_ix iIxT (pe_ix iIx (pV 13) (pe_un uNeg pe_int) (fun _ _ => rfl)) pe_int (fun _ _ => rfl)) (nomark _)))) (pss_one (ps_set (i := 15) sc_mkhouse.nd rfl (Or.inl rfl) (pe_op oAdd (pe_ix iIxT (pe_ix iIx (pV 13) (pe_un uNeg pe_int) (fun _ _ => rfl)) pe_int (fun _ _ => rfl)) pe_int))) pss_nil) (pss_cons (ps_dput (hu_of hr) (pV 9) (pe_ix iIx (pV 2) (pV 10) (fun _ _ => rfl)) (pV 7) rfl) (pss_cons (ps_expr (pe_bm PySem.F.plainAttrs_list PySem.F.slot_list_append PySem.F.type_list_append mt_append (pV 13) (pa_cons (pe_tup (pa_cons (pe_ix iIx (pV 2) (pV 10) (fun _ _ => rfl)) (pa_cons (pV 15) pa_nil))) pa_nil))) (pss_one (ps_set (i := 10) sc_mkhouse.nd rfl (Or.inl rfl) (pe_op oAdd (pV 10) pe_int))))))))) pss_nil))) (pss_cons (ps_if (ptC (oNeNil hr.units) (pV 13) (pe_lst pa_nil) (nomark _)) (pss_one (ps_expr (pe_bm PySem.F.plainAttrs_list PySem.F.slot_list_append PySem.F.type_list_append mt_append (pV 8) (pa_cons (pe_callTy call_tuple_of rfl T.tuple PyProof.Rows.boot_tuple (pa_cons (pV 13) pa_nil)) pa_nil)))) pss_nil) (pss_one (ps_set (i := 7) sc_mkhouse.nd rfl (Or.inl rfl) (pe_op oAdd (pV 7) (pe_call G_take hr rfl m_take k_take b_take .nil pass0 (pa_cons (pV 0) (pa_cons pe_int pa_nil))))))))))) (pss_one (ps_ret (pe_tup (pa_cons (pe_tup (pa_cons (pV 1) (pa_cons (pV 4) (pa_cons (pe_op oAdd (pV 4) (pV 5)) (pa_cons (pV 6) (pa_cons (pe_callTy call_tuple_of rfl T.tuple PyProof.Rows.boot_tuple (pa_cons (pV 8) pa_nil)) pa_nil)))))) (pa_cons (pV 9) pa_nil))))))))))))), ?_⟩
    refine asg_i fun U1 hU1 => ?_
    refine ⟨p, 41, rfl, hp, by decide, by decide, fun d1 H1 _ _ hp1 s1 => ?_⟩
    show U1 _ _
    subst hU1
    refine asg_i fun U2 hU2 => ?_
    refine ⟨by show 4 ≤ sizeLine; omega, fun l1 hl1 => ?_⟩
    refine ⟨p, 4, rfl, hp1.new hl1, by decide, by decide, fun d2 H2 d2a d2b hp2 s2 => ?_⟩
    have nl1 : l1 ≠ p := fun z => by obtain ⟨n, e, _⟩ := hp1; rw [← z, hl1] at e; cases e
    obtain ⟨wide, ew, w0, w1⟩ := menu4 (a := 0) (b := 3) (c := 40) (e := 300) d2a d2b (by decide) (by decide) (by decide) (by decide)
    refine ixAt (s2 l1 _ nl1 upd_same) ew ?_
    show U2 _ _
    subst hU2
    have S2 : SameB p H H2 := ((SameB.of (Same.refl H)).trans s1 |>.new hl1).trans s2
    refine asg_i fun U3 hU3 => ?_
    refine ⟨by show 4 ≤ sizeLine; omega, fun l2 hl2 => ?_⟩
    refine ⟨p, 4, rfl, hp2.new hl2, by decide, by decide, fun d3 H3 d3a d3b hp3 s3 => ?_⟩
    have nl2 : l2 ≠ p := fun z => by obtain ⟨n, e, _⟩ := hp2; rw [← z, hl2] at e; cases e
    obtain ⟨drift, ed, dr0, dr1⟩ := menu4 (a := 0) (b := 1) (c := 2) (e := 9) d3a d3b (by decide) (by decide) (by decide) (by decide)
    refine ixAt (s3 l2 _ nl2 upd_same) ed ?_
    show U3 _ _
    subst hU3
    have S3 : SameB p H H3 := (S2.new hl2).trans s3
    refine asg_i fun U4 hU4 => ?_
    refine ⟨p, 60, rfl, hp3, by decide, by decide, fun d4 H4 _ _ hp4 s4 => ?_⟩
    show U4 _ _
    subst hU4
    have S4 : SameB p H H4 := S3.trans s4
    refine asg_i fun U5 hU5 => ?_
    refine ⟨Nat.zero_le _, fun R hR => ?_⟩
    show U5 _ _
    subst hU5
    have nR : R ≠ p := fun z => by obtain ⟨n, e, _⟩ := hp4; rw [← z, hR] at e; cases e
    have fR : H R = none := by
      cases e : H R with
      | none => rfl
      | some o => have := S4 R o nR e; rw [hR] at this; cases this
    refine asg_i fun U6 hU6 => ?_
    refine fun D hD => ?_
    show U6 _ _
    subst hU6
    have hp5 := hp4.new (o := .lst []) hR
    have S5 : SameB p H (upd H4 R (.lst [])) := S4.new hR
    have nD : D ≠ p := fun z => by obtain ⟨n, e, _⟩ := hp5; rw [← z, hD] at e; cases e
    have nRD : R ≠ D := ne_of_none upd_same hD
    have fD : H D = none := by
      cases e : H D with
      | none => rfl
      | some o => have := S5 D o nD e; rw [hD] at this; cases this
    have nlD : ln ≠ D := ne_of_none hln fD
    refine ⟨p, 4, rfl, hp5.new hD, by decide, by decide, fun n1 H6 n1a n1b hp6 s6 => ?_⟩
    have S6 : SameB p H H6 := (S5.new hD).trans s6
    obtain ⟨low, hlow⟩ : ∃ low, low = d1 - 20 := ⟨_, rfl⟩
    refine ⟨n1, rfl, by omega, by omega, for_range (lo := 0) (n := n1.toNat) (PvA p ln R D nm room low wide drift H ss) ?_ (fun i σ H' hi hz16 => ?_) (fun σ H' hz17 => ?_)⟩
    · exact ⟨_, 0, [], [], [], none, none, none, none, none, by subst hlow; rfl, ⟨hp6, S6, s6 R _ nR (by rw [upd_ne nRD]; exact upd_same), .nil, s6 D _ nD upd_same, rfl, fun n hn => by simp at hn, Nat.zero_le _, .inr rfl, fun r hr => by simp at hr⟩, rfl, Nat.zero_le _⟩
    · refine hideP fun Rz0 hRz0 => ?_
      obtain ⟨mo, m, vr, kvs, runs, o11, o12, o13, o14, o15, eσ, S, fl, rl⟩ := hz16
      subst hRz0
      subst eσ
      refine ⟨p, wide + 1, rfl, S.pack, by omega, by omega, fun ofv Ha _ _ hpa sa => ?_⟩
      have Sa := S.step nR nD hpa sa
      refine ⟨Nat.zero_le _, fun L hL => ?_⟩
      have Sb := Sa.new (o := .lst []) nR nD hL
      have nLp : L ≠ p := fun z => by obtain ⟨n, e, _⟩ := Sa.pack; rw [← z, hL] at e; cases e
      have nLR : L ≠ R := fun z => by rw [z, Sa.hR] at hL; cases hL
      have nLD : L ≠ D := fun z => by rw [z, Sa.hD] at hL; cases hL
      have fL : H L = none := by
        cases e : H L with
        | none => rfl
        | some o => have := Sa.same L o nLp e; rw [hL] at this; cases this
      refine ⟨p, 5, rfl, Sb.pack, by decide, by decide, fun n2 Hc n2a n2b hpc sc => ?_⟩
      have Sc := Sb.step nR nD hpc sc
      have hLc : Hc L = some (.lst []) := sc L _ nLp upd_same
      refine ⟨1 + n2, rfl, by omega, by omega, for_range (lo := 0) (n := (1 + n2).toNat) (PvB p ln R D L nm room low wide drift ofv H ss i vr runs) ?_ (fun j σ H'' hj hz18 => ?_) (fun σ H'' hz19 => ?_)⟩
      · exact ⟨mo, m, kvs, [], [], _, _, rfl, Sc, hLc, .nil, by rw [List.append_nil]; exact fl, Nat.zero_le _, List.Pairwise.nil⟩
      · refine hideP fun Rz0 hRz0 => ?_
        obtain ⟨mo, m, kvs, vl, rs, o14, o15, eσ, S, hL', pl, fl', rl', ris⟩ := hz18
        subst hRz0
        subst eσ
        have gr : ∀ r ∈ rs, Good r.1 := fun r hr => gs r.1 (by
          have z : r.1 ∈ ss.take m := by rw [← fl', List.map_append]; exact List.mem_append_right _ (List.mem_map_of_mem hr)
          exact List.mem_of_mem_take z)
        have skip : ∃ (mo' : Int) (m' : Nat) (kvs' : List (Key × V)) (vl' : List V) (rs' : List Row) (o14' o15' : Option V), ([some (.ref p), some (.str nm), some (.ref ln), some (.int room), some (.int low), some (.int wide), some (.int drift), some (.int mo), some (.ref R), some (.ref D), some (.int (m : Int)), some (.int (0 + (i : Int))), some (.int (low + ofv)), some (.ref L), some (.int (0 + (j : Int))), o15] : St) = [some (.ref p), some (.str nm), some (.ref ln), some (.int room), some (.int low), some (.int wide), some (.int drift), some (.int mo'), some (.ref R), some (.ref D), some (.int (m' : Int)), some (.int (0 + (i : Int))), some (.int (low + ofv)), some (.ref L), o14', o15'] ∧
          HS H p R D ss room H'' vr kvs' runs m' ∧ H'' L = some (.lst vl') ∧ Paired (RowAt H'') vl' rs' ∧ (runs.flatten ++ rs').map Prod.fst = ss.take m' ∧ rs'.length ≤ j + 1 ∧ (rs'.map Prod.snd).Pairwise (· < ·) := ⟨mo, m, kvs, vl, rs, _, _, rfl, S, hL', pl, fl', Nat.le_succ_of_le rl', ris⟩
        refine ite2 (fun c1 => ?_) (fun c1 => skip)
        refine ⟨ln, _, rfl, .inl (SqL.of (S.same ln _ nln hln)), ?_⟩
        refine ite2 (fun c2 => ?_) (fun c2 => skip)
        clear skip
        have hroom : (m : Int) < room := of_decide_eq_true c1
        have hlen : m < ss.length := by
          have z : (m : Int) < ((ss.map V.str).length : Int) := of_decide_eq_true c2
          rw [List.length_map] at z; omega
        refine hideP fun Rz1 hRz1 => ?_
        obtain ⟨n, hn⟩ : ∃ n, ss[m]? = some n := ⟨ss[m], List.getElem?_eq_getElem hlen⟩
        subst hRz1
        refine asg_i fun V1 hV1 => ?_
        refine ⟨p, 30, rfl, S.pack, by decide, by decide, fun d5 Hd _ _ hpd sd => ?_⟩
        show V1 _ _
        subst hV1
        refine asg_i fun V2 hV2 => ?_
        show V2 _ _
        subst hV2
        have Sd := S.step nR nD hpd sd
        have hLd : Hd L = some (.lst vl) := sd L _ nLp hL'
        have pld : Paired (RowAt Hd) vl rs := paired_mono (fun _ _ z => z.ts (SameB.tups S.pack sd)) pl
        refine if_join (NvR p ln R D L nm room low wide drift ofv (mo + 1 + d5) m (.int (0 + (i : Int))) (.int (0 + (j : Int))) H ss vr vl kvs runs rs (fun _ => True)) (fun U hU => ?_) (fun σ2 H2 hN2 => ?_)
        · have fin0 : ∀ (rd : Int) (H9 : Hp), HS H p R D ss room H9 vr kvs runs m → H9 L = some (.lst vl) → Paired (RowAt H9) vl rs → U [some (.ref p), some (.str nm), some (.ref ln), some (.int room), some (.int low), some (.int wide), some (.int drift), some (.int (mo + 1 + d5)), some (.ref R), some (.ref D), some (.int (m : Int)), some (.int (0 + (i : Int))), some (.int (low + ofv)), some (.ref L), some (.int (0 + (j : Int))), some (.int rd)] H9 := fun rd H9 x1 x2 x3 => hU _ _ ⟨rd, rfl, x1, x2, x3, trivial⟩
          refine ⟨Nat.zero_le _, fun e1 he1 => ?_⟩
          have Se := Sd.new (o := .lst []) nR nD he1
          have hLe : upd Hd e1 (.lst []) L = some (.lst vl) := (upd_ne (ne_of_none hLd he1)).trans hLd
          have ple : Paired (RowAt (upd Hd e1 (.lst []))) vl rs := paired_mono (fun _ _ z => z.ts ((Tups.refl Hd).new he1)) pld
          refine neNil hLe ple gr upd_same ?_
          generalize (!rs.isEmpty) = bb
          cases bb with
          | false => exact fin0 _ _ Se hLe ple
          | true =>
            refine ite2 (fun k1 => ?_) (fun k1 => fin0 _ _ Se hLe ple)
            refine ⟨p, 3, rfl, Se.pack, by decide, by decide, fun d6 Hh _ _ hph sh => ?_⟩
            have Sh := Se.step nR nD hph sh
            have hLh : Hh L = some (.lst vl) := sh L _ nLp hLe
            have plh : Paired (RowAt Hh) vl rs := paired_mono (fun _ _ z => z.ts (SameB.tups Se.pack sh)) ple
            exact ite2 (fun k2 => ite2 (fun k3 => fin0 _ _ Sh hLh plh) (fun k3 => fin0 _ _ Sh hLh plh)) (fun k2 => fin0 _ _ Sh hLh plh)
        refine hideP fun Rz1 hRz1 => ?_
        obtain ⟨rd, eσ2, Sx, hLx, plx, _⟩ := hN2
        subst hRz1
        subst eσ2
        refine if_join (NvR p ln R D L nm room low wide drift ofv (mo + 1 + d5) m (.int (0 + (i : Int))) (.int (0 + (j : Int))) H ss vr vl kvs runs rs (fun rd => ∀ r ∈ rs, r.2 < rd)) (fun U hU => ?_) (fun σ3 H3 hN3 => ?_)
        · refine ⟨Nat.zero_le _, fun fa hfa => ?_⟩
          have Sga := Sx.new (o := .lst []) nR nD hfa
          have hLga : upd H2 fa (.lst []) L = some (.lst vl) := (upd_ne (ne_of_none hLx hfa)).trans hLx
          have plga : Paired (RowAt (upd H2 fa (.lst []))) vl rs := paired_mono (fun _ _ z => z.ts ((Tups.refl _).new hfa)) plx
          refine neNil hLga plga gr upd_same ?_
          rcases List.eq_nil_or_concat rs with er | ⟨rs0, rl0, er⟩
          · subst er
            exact hU _ _ ⟨_, rfl, Sga, hLga, plga, fun r hr => by simp at hr⟩
          · rw [List.concat_eq_append] at er
            have ne : (!rs.isEmpty) = true := by rw [er]; simp
            rw [ne]
            have lastI : ∃ vl0 vL, vl = vl0 ++ [vL] ∧ ∀ Hx, Paired (RowAt Hx) vl rs → RowAt Hx vL rl0 := by
              have hv : vl ≠ [] := fun z => by
                have := pl.length
                rw [z, er] at this
                simp at this
              obtain ⟨vl0, vL, ev⟩ := (List.eq_nil_or_concat vl).resolve_left hv
              rw [List.concat_eq_append] at ev
              refine ⟨vl0, vL, ev, fun Hx px => ?_⟩
              have l1 := px.length
              rw [ev, er, List.length_append, List.length_append] at l1
              have e1 : vl[vl0.length]? = some vL := by rw [ev]; simp
              obtain ⟨r, hr, ra⟩ := paired_getL px e1
              have e2 : rs[vl0.length]? = some rl0 := by
                have : vl0.length = rs0.length := by simpa using l1
                rw [er, this]; simp
              rw [e2] at hr
              cases hr
              exact ra
            refine hideP fun Rz0 hRz0 => ?_
            obtain ⟨vl0, vL, evl, lastR⟩ := lastI
            obtain ⟨gaa, rfl, gba⟩ := lastR _ plga
            subst hRz0
            have lastLt : ∀ rd : Int, rl0.2 < rd → ∀ r ∈ rs, r.2 < rd := fun rd h r hr => by
              rw [er] at hr ris
              rcases List.mem_append.mp hr with z | z
              · rw [List.map_append] at ris
                have := (List.pairwise_append.mp ris).2.2 r.2 (List.mem_map_of_mem z) rl0.2 (by simp)
                omega
              · rw [List.mem_singleton.mp z]; exact h
            refine ixAt hLga (i := -1) (v := .ref gaa) (by rw [evl]; exact atI_last) ?_
            refine ixTup (SqT.of gba) (i := 1) (v := .int rl0.2) (by rfl) ?_
            refine ite2 (fun cc => ?_) (fun cc => ?_)
            · refine ixAt hLga (i := -1) (v := .ref gaa) (by rw [evl]; exact atI_last) ?_
              refine ixTup (SqT.of gba) (i := 1) (v := .int rl0.2) (by rfl) ?_
              exact hU _ _ ⟨_, rfl, Sga, hLga, plga, lastLt _ (by omega)⟩
            · have cc2 : ¬ rd ≤ rl0.2 := fun z => cc (decide_eq_true z)
              exact hU _ _ ⟨_, rfl, Sga, hLga, plga, lastLt _ (by omega)⟩
        refine hideP fun Rz1 hRz1 => ?_
        obtain ⟨rd, eσ3, Sy, hLy, ply, lt⟩ := hN3
        subst hRz1
        subst eσ3
        refine ixAt (Sy.same ln _ nln hln) (i := (m : Int)) (v := .str n) (atI_nat (by rw [List.getElem?_map, hn]; rfl)) ?_
        refine ⟨D, _, rfl, DPut.k (k := Sum.inr n) Sy.hD (by have z := congrArg List.length Sy.keys; rw [List.length_map, List.length_map, List.length_take] at z; omega), ?_⟩
        have hLq : upd H3 D (.dK (putK kvs (.inr n) (.int (mo + 1 + d5)))) L = some (.lst vl) := (upd_ne nLD).trans hLy
        refine ⟨.inl ⟨rfl, _, SqL.of hLq⟩, ?_⟩
        refine ixAt ((upd_ne nlD).trans (Sy.same ln _ nln hln)) (i := (m : Int)) (v := .str n) (atI_nat (by rw [List.getElem?_map, hn]; rfl)) ?_
        refine ⟨by show 2 ≤ sizeLine; omega, fun tp htp => ?_⟩
        obtain ⟨Sq, pq⟩ := HS.put (rd := rd) Sy nR nD nRD nLp nLR nLD fD fL nd hn hroom hLy ply htp
        refine ⟨L, vl, _, rfl, rfl, (upd_ne (ne_of_none hLq htp)).trans hLq, by have z := ply.length; omega, ?_⟩
        exact ⟨_, m + 1, _, _, rs ++ [(n, rd)], _, _, rfl, Sq, upd_same, pq, by rw [← List.append_assoc, List.map_append, fl', take_get hn]; rfl, by rw [List.length_append]; exact Nat.add_le_add_right rl' 1, rise_snoc ris lt⟩
      · refine hideP fun Rz0 hRz0 => ?_
        obtain ⟨mo, m, kvs, vl, rs, o14, o15, eσ, S, hL', pl, fl', rl', ris⟩ := hz19
        subst hRz0
        subst eσ
        have gr : ∀ r ∈ rs, Good r.1 := fun r hr => gs r.1 (by
          have z : r.1 ∈ ss.take m := by rw [← fl', List.map_append]; exact List.mem_append_right _ (List.mem_map_of_mem hr)
          exact List.mem_of_mem_take z)
        refine ⟨Nat.zero_le _, fun e1 he1 => ?_⟩
        have Se := S.new (o := .lst []) nR nD he1
        have hLe : upd H'' e1 (.lst []) L = some (.lst vl) := (upd_ne (ne_of_none hL' he1)).trans hL'
        have ple : Paired (RowAt (upd H'' e1 (.lst []))) vl rs := paired_mono (fun _ _ z => z.ts ((Tups.refl _).new he1)) pl
        have lr := ple.length
        have lrr := Se.pR.length
        refine neNil hLe ple gr upd_same ?_
        refine ite2 (fun c1 => ?_) (fun c1 => ?_)
        · have rne : rs ≠ [] := fun z => by rw [z] at c1; cases c1
          refine ⟨.inl ⟨rfl, _, SqL.of Se.hR⟩, ?_⟩
          refine ⟨L, vl, rfl, .inl ⟨SqL.of hLe, fun t9 ht9 => ?_⟩⟩
          have St := Se.new (o := .tup vl) nR nD ht9
          refine ⟨R, vr, _, rfl, rfl, St.hR, by omega, ?_⟩
          have tt : Tups (upd (upd H'' e1 (.lst [])) t9 (.tup vl)) (upd (upd (upd H'' e1 (.lst [])) t9 (.tup vl)) R (.lst (vr ++ [.ref t9]))) := (Tups.refl _).put St.hR (fun _ z => nomatch z)
          have Su : HS H p R D ss room (upd (upd (upd H'' e1 (.lst [])) t9 (.tup vl)) R (.lst (vr ++ [.ref t9]))) (vr ++ [.ref t9]) kvs (runs ++ [rs]) m := by
            refine ⟨St.pack.put nR, fun b o hb e => ?_, upd_same, ?_, (upd_ne (Ne.symm nRD)).trans St.hD, St.keys, St.vals, St.le, St.rm, fun r hr => ?_⟩
            · rw [upd_ne (ne_of_none e fR)]; exact St.same b o hb e
            · refine paired_app (paired_mono (fun _ _ z => z.ts tt) St.pR) (.cons ⟨t9, vl, rfl, tt _ _ upd_same, paired_mono (fun _ _ z => z.ts (((Tups.refl _).new ht9).trans tt)) ple⟩ .nil)
            · rcases List.mem_append.mp hr with z | z
              · exact St.good r z
              · rw [List.mem_singleton.mp z]
                exact ⟨rne, by omega, gr, ris⟩
          refine ⟨p, 5, rfl, Su.pack, by decide, by decide, fun d9 Hz _ _ hpz sz => ?_⟩
          exact ⟨_, m, _, kvs, runs ++ [rs], _, _, _, _, _, rfl, Su.step nR nD hpz sz, by rw [List.flatten_append]; simpa using fl', by rw [List.length_append]; exact Nat.add_le_add_right rl 1⟩
        · have rne : rs = [] := by
            cases rs with
            | nil => rfl
            | cons r rs => exact absurd rfl c1
          subst rne
          refine ⟨p, 5, rfl, Se.pack, by decide, by decide, fun d9 Hz _ _ hpz sz => ?_⟩
          exact ⟨_, m, _, kvs, runs, _, _, _, _, _, rfl, Se.step nR nD hpz sz, by simpa using fl', Nat.le_succ_of_le rl⟩
    · refine hideP fun Rz0 hRz0 => ?_
      obtain ⟨mo, m, vr, kvs, runs, o11, o12, o13, o14, o15, eσ, S, fl, rl⟩ := hz17
      subst hRz0
      subst eσ
      have lr := S.pR.length
      refine ⟨R, vr, rfl, .inl ⟨SqL.of S.hR, fun t1 h1 => ?_⟩⟩
      have Sa := S.new (o := .tup vr) nR nD h1
      refine ⟨by show 5 ≤ sizeLine; omega, fun t2 h2 => ?_⟩
      have Sb := Sa.new (o := .tup [.str nm, .int low, .int (low + wide), .int drift, .ref t1]) nR nD h2
      refine ⟨by show 2 ≤ sizeLine; omega, fun t3 h3 => ?_⟩
      have Sc := Sb.new (o := .tup [.ref t2, .ref D]) nR nD h3
      have nt3 : t3 ≠ p := fun z => by obtain ⟨n, e, _⟩ := Sb.pack; rw [← z, h3] at e; cases e
      have ft3 : H t3 = none := by
        cases e : H t3 with
        | none => rfl
        | some o => have := Sb.same t3 o nt3 e; rw [h3] at this; cases this
      refine q t3 D (.ref t2) ⟨nm, low, low + wide, drift, runs⟩ kvs m _ ft3 fD upd_same ⟨t2, .ref t1, rfl, (upd_ne (ne_of_none upd_same h3)).trans upd_same, t1, vr, rfl, ?_, Sc.pR⟩ ⟨gn, by show low ≤ low + wide; omega, dr0, by show runs.length ≤ 25; omega, Sc.good⟩ rfl fl Sc.le Sc.rm Sc.hD Sc.keys Sc.vals Sc.pack Sc.same
      have e1 : upd (upd H' t1 (.tup vr)) t2 (.tup [.str nm, .int low, .int (low + wide), .int drift, .ref t1]) t1 = some (.tup vr) := (upd_ne (ne_of_none upd_same h2)).trans upd_same
      exact (upd_ne (ne_of_none e1 h3)).trans e1
end
end K49
namespace K49
open PySem L2 K02
section
variable {P : Program} {w : World} {K : PySem.W.Frag} {mg : Str → Option Value} {base : Heap} {t8 : Tok}
theorem sc_mkletters : FnScope ["_law_pack_here", "_law_houses", "_law_hidden", "_law_home", "_law_house_here", "_law_run", "_law_name", "_law_reading", "_law_rows_here", "_law_found", "_law_turn", "_law_one", "_law_other", "_law_gap", "_law_slack", "_law_most"] ["_law_pack_here", "_law_houses", "_law_hidden"] (defScope sMkLetters) := ⟨rfl, rfl, rfl, by decide +kernel, rfl, by decide +kernel, by decide +kernel⟩
theorem ok_mkletters {f f_take : Addr} {fd fd_take : FuncData} (F : Fun K "_law_letters" "_law_letters" sMkLetters f fd) (T : Txt mg t8)
    (G_take : FnOk P w K mg base CX0 1 f_take fd_take ["_law_pack_here", "_law_size"] spTake) (m_take : mg "_law_take" = some (.ref f_take)) (k_take : PySem.W.keepIn K (.ref f_take) = true) (b_take : Binds K fd_take ["_law_pack_here", "_law_size"] []) : FnOk P w K mg base CX0 2 f fd ["_law_pack_here", "_law_houses", "_law_hidden"] spMkLetters := by
  refine F.ok sc_mkletters (fun vs H Q E h => ?_) (fun cdv A outer s H vs Q E hr h => ?_)
  · obtain ⟨p, lh, dh, vh, hs, kvs, rfl, _⟩ := h
    rfl
  · obtain ⟨p, lh, dh, vh, hs, kvs, rfl, hp, hlh, ph, h6, gh, nd, few, hdh, keys, vals, q⟩ := h
    have sl0 : sizeLine = 16777216 := sizeLine_eq
    have nlh : lh ≠ p := fun z => by
      obtain ⟨n, e, _⟩ := hp
      rw [z, e] at hlh
      cases ph with
      | nil => cases hlh
      | cons h _ => obtain ⟨a, b, rfl, _⟩ := h; cases hlh
    have ndh : dh ≠ p := fun z => by obtain ⟨n, e, _⟩ := hp; rw [z, e] at hdh; cases hdh
    refine ⟨_, (pss_cons (ps_set (i := 3) sc_mkletters.nd rfl (Or.inl rfl) pe_dnewK) (pss_cons (ps_for PassesOwn.never rfl (pi_list (pV 1)) (pg_name (i := 4) sc_mkletters.nd rfl (Or.inl rfl)) (pss_one (ps_for PassesOwn.never rfl (pi_tup (pe_ix iIxT (pV 4) pe_int (fun _ _ => rfl))) (pg_name (i := 5) sc_mkletters.nd rfl (Or.inl rfl)) (pss_one (ps_for PassesOwn.never rfl (pi_tup (pV 5)) (pg_tup rfl (pgs_cons (pg_name (i := 6) sc_mkletters.nd rfl (Or.inl rfl)) (pgs_cons (pg_name (i := 7) sc_mkletters.nd rfl (Or.inl rfl)) pgs_nil))) (pss_one (ps_dput (hu_of hr) (pV 3) (pV 6) (pe_ix iIxT (pV 4) pe_int (fun _ _ => rfl)) rfl))))))) (pss_cons (ps_set (i := 8) sc_mkletters.nd rfl (Or.inl rfl) (pe_callB (call_sortedD rfl) rfl T.sorted PyProof.Rows.boot_sorted (pa_cons (pV 2) pa_nil))) (pss_cons (ps_set (i := 9) sc_mkletters.nd rfl (Or.inr rfl) pe_dnewT) (pss_cons (ps_for PassesOwn.never rfl (pi_range1 rfl T.range (pa_cons (pe_call G_take hr rfl m_take k_take b_take .nil pass0 (pa_cons (pV 0) (pa_cons pe_int pa_nil))) pa_nil)) (pg_name (i := 10) sc_mkletters.nd rfl (Or.inl rfl)) (pss_one (ps_if (ptC oGt (pe_callB call_len_seq rfl T.len PySem.boot_len (pa_cons (pV 8) pa_nil)) pe_int (nomark _)) (pss_cons (ps_set (i := 11) sc_mkletters.nd rfl (Or.inl rfl) (pe_ix iIx (pV 8) (pe_call G_take hr rfl m_take k_take b_take .nil pass0 (pa_cons (pV 0) (pa_cons (pe_callB call_len_seq rfl T.len PySem.boot_len (pa_cons (pV 8) pa_nil)) pa_nil))) (fun _ _ => rfl))) (pss_cons (ps_set (i := 12) sc_mkletters.nd rfl (Or.inl rfl) (pe_ix iIx (pV 8) (pe_call G_take hr rfl m_take k_take b_take .nil pass0 (pa_cons (pV 0) (pa_cons (pe_callB call_len_seq rfl T.len PySem.boot_len (pa_cons (pV 8) pa_nil)) pa_nil))) (fun _ _ => rfl))) (pss_cons (ps_set (i := 13) sc_mkletters.nd rfl (Or.inl rfl) (pe_op oSub (pe_dget (hu_of hr) (pV 2) (pV 12) (fun _ _ => rfl)) (pe_dget (hu_of hr) (pV 2) (pV 11) (fun _ _ => rfl)))) (pss_cons (ps_set (i := 14) sc_mkletters.nd rfl (Or.inl rfl) (pe_call G_take hr rfl m_take k_take b_take .nil pass0 (pa_cons (pV 0) (pa_cons pe_int pa_nil)))) (pss_one (ps_if (ptAnd (ptC oNeS (pe_dget (hu_of hr) (pV 3) (pV 11) (fun _ _ => rfl)) (pe_dget (hu_of hr) (pV 3) (pV 12) (fun _ _ => rfl)) (nomark _)) (pw_and1 (ptC oGt (pV 13) pe_int (nomark _)))) (pss_cons (ps_set (i := 15) sc_mkletters.nd rfl (Or.inl rfl) (pe_ix iIx (pe_lst (pa_cons pe_non (pa_cons (pV 13) (pa_cons (pe_op oAdd (pV 13) (pV 14)) pa_nil)))) (pe_call G_take hr rfl m_take k_take b_take .nil pass0 (pa_cons (pV 0) (pa_cons pe_int pa_nil))) (fun _ _ => rfl))) (pss_one (ps_dput (hu_of hr) (pV 9) (pe_tup (pa_cons (pV 11) (pa_cons (pV 12) pa_nil))) (pe_tup (pa_cons (pV 11) (pa_cons (pV 12) (pa_cons (pe_callB (call_max2 rfl) rfl T.max PyProof.Rows.boot_max (pa_cons pe_int (pa_cons (pe_op oSub (pV 13) (pV 14)) pa_nil))) (pa_cons (pV 15) pa_nil))))) rfl))) pss_nil)))))) pss_nil))) (pss_one (ps_ret (pe_callTy call_tuple_of rfl T.tuple PyProof.Rows.boot_tuple (pa_cons (pe_comp (scX := defScope sMkLetters) (own := ["_law_pair"]) (cap := ["_law_found"]) (ix := [9]) rfl rfl ⟨rfl, by decide +kernel, by decide +kernel, by decide +kernel, rfl, by decide +kernel⟩ (pi_list (pe_callB (call_sortedT rfl) rfl T.sorted PyProof.Rows.boot_sorted (pa_cons (pV 9) pa_nil))) (fun b => (pg_name (i := 0) (show (["_law_pair", "_law_found"] : List Str).Nodup by decide +kernel) rfl (Or.inl rfl))) (fun b => pif_nil) (fun b => (pe_dget (hu_of hr) (pV 1) (pV 0) (fun _ _ => rfl)))) pa_nil))))))))), ?_⟩
    refine fun O hO => ?_
    have s0 : Same H (upd H O (.dK [])) := (Same.refl H).upd hO
    have bigP : (pairsOf hs).length ≤ 24 := by
      have z := few
      rw [← pairsOf_fst, List.length_map] at z
      exact z
    have ndP : ((pairsOf hs).map Prod.fst).Nodup := by rw [pairsOf_fst]; exact nd
    have putOk : ∀ (A : List (Str × Str)) (x : Str × Str) (B : List (Str × Str)) (kv : List (Key × V)), pairsOf hs = A ++ x :: B → OwnsL kv A → kv.length ≤ A.length → OwnsL (putK kv (.inr x.1) (.str x.2)) (A ++ [x]) ∧ (putK kv (.inr x.1) (.str x.2)).length ≤ (A ++ [x]).length ∧ kv.length < sizeLine := fun A x B kv e ow kl => by
      have l1 := bigP
      rw [e, List.length_append, List.length_cons] at l1
      refine ⟨OwnsL.put ow fun y hy z => ?_, ?_, by omega⟩
      · rw [e, List.map_append, List.map_cons] at ndP
        exact (List.nodup_append.mp ndP).2.2 y.1 (List.mem_map_of_mem hy) x.1 List.mem_cons_self z
      · have z := length_putK kv (.inr x.1) (V.str x.2)
        rw [List.length_append]
        exact Nat.le_trans z (Nat.add_le_add_right kl 1)
    refine ⟨lh, rfl, ⟨_, SqL.of (s0 _ _ hlh)⟩, for_list (xs := vh) (PvC p lh dh O hs H) ⟨[], none, none, none, none, rfl, upd_same, fun x hx => by simp [pairsOf] at hx, Nat.zero_le _, s0⟩ (fun i σ H' _ hz20 => by obtain ⟨_, _, _, _, _, _, _, _, _, s⟩ := hz20; exact SqL.of (s _ _ hlh)) (fun i x σ H' hx hz21 => ?_) (fun σ H1 hz22 => ?_)⟩
    · refine hideP fun Rz0 hRz0 => ?_
      obtain ⟨kv, o4, o5, o6, o7, eσ, eO, ow, kl, s⟩ := hz21
      subst hRz0
      subst eσ
      obtain ⟨hh, hhi, ha⟩ := paired_getL ph hx
      have gd := gh hh (List.mem_of_getElem? hhi)
      refine hideP fun Rz0 hRz0 => ?_
      obtain ⟨a, b, ez30, ga, c, vr, ez31, gc, pr⟩ := ha
      subst hRz0
      subst ez30
      subst ez31
      refine ixTup (SqT.of (s _ _ ga)) (i := 4) (v := .ref c) (by rfl) ?_
      have e0 : pairsOf hs = pairsOf (hs.take i) ++ (pairsH hh ++ pairsOf (hs.drop (i + 1))) := by
        unfold pairsOf
        have e1 : hs = hs.take i ++ (hh :: hs.drop (i + 1)) := by
          obtain ⟨li, fi⟩ := List.getElem?_eq_some_iff.mp hhi
          rw [← fi, List.getElem_cons_drop, List.take_append_drop]
        conv => lhs; rw [e1]
        rw [List.flatMap_append, List.flatMap_cons]
      refine ⟨c, rfl, ⟨_, SqT.of (s _ _ gc)⟩, for_tup (xs := vr) (PvD p lh dh O a hs hh i H) ⟨kv, o5, o6, o7, rfl, eO, by simpa using ow, by simpa using kl, s⟩ (fun j σ H' _ hz23 => by obtain ⟨_, _, _, _, _, _, _, _, s⟩ := hz23; exact SqT.of (s _ _ gc)) (fun j y σ H' hy hz24 => ?_) (fun σ H' hz25 => ?_)⟩
      · refine hideP fun Rz0 hRz0 => ?_
        obtain ⟨kv, o5, o6, o7, eσ, eO, ow, kl, s⟩ := hz24
        subst hRz0
        subst eσ
        refine hideP fun Rz0 hRz0 => ?_
        obtain ⟨r, hr', c2, ws, ez32, g2, pr2⟩ := paired_getL pr hy
        subst hRz0
        subst ez32
        have e1 : pairsH hh = (hh.runs.take j).flatMap (pairsR hh.name) ++ (pairsR hh.name r ++ (hh.runs.drop (j + 1)).flatMap (pairsR hh.name)) := by
          rw [pairsH_flat]
          have e1 : hh.runs = hh.runs.take j ++ (r :: hh.runs.drop (j + 1)) := by
            obtain ⟨li, fi⟩ := List.getElem?_eq_some_iff.mp hr'
            rw [← fi, List.getElem_cons_drop, List.take_append_drop]
          conv => lhs; rw [e1]
          rw [List.flatMap_append, List.flatMap_cons]
        refine ⟨c2, rfl, ⟨_, SqT.of (s _ _ g2)⟩, for_tup (xs := ws) (PvE p lh dh O a c2 hs hh i j r H) ⟨kv, o6, o7, rfl, eO, by simpa using ow, by simpa using kl, s⟩ (fun t σ H' _ hz26 => by obtain ⟨_, _, _, _, _, _, _, s⟩ := hz26; exact SqT.of (s _ _ g2)) (fun t z σ H' hz hz27 => ?_) (fun σ H' hz28 => ?_)⟩
        · refine hideP fun Rz0 hRz0 => ?_
          obtain ⟨kv, o6, o7, eσ, eO, ow, kl, s⟩ := hz27
          subst hRz0
          subst eσ
          refine hideP fun Rz0 hRz0 => ?_
          obtain ⟨rr, hrr, ra1, ez33, ra2⟩ := paired_getL pr2 hz
          subst hRz0
          subst ez33
          have hp' : (pairsR hh.name r)[t]? = some (rr.1, hh.name) := by unfold pairsR; rw [List.getElem?_map, hrr]; rfl
          refine ⟨ra1, _, rfl, SqT.of (s _ _ ra2), rfl, _, _, rfl, _, _, rfl, rfl, ?_⟩
          refine ixTup (SqT.of (s _ _ ga)) (i := 0) (v := .str hh.name) (by rfl) ?_
          have e2 : pairsR hh.name r = (pairsR hh.name r).take t ++ ((rr.1, hh.name) :: (pairsR hh.name r).drop (t + 1)) := by
            obtain ⟨li, fi⟩ := List.getElem?_eq_some_iff.mp hp'
            rw [← fi, List.getElem_cons_drop, List.take_append_drop]
          obtain ⟨w1, w2, w3⟩ := putOk (pairsOf (hs.take i) ++ (hh.runs.take j).flatMap (pairsR hh.name) ++ (pairsR hh.name r).take t) (rr.1, hh.name) ((pairsR hh.name r).drop (t + 1) ++ ((hh.runs.drop (j + 1)).flatMap (pairsR hh.name) ++ pairsOf (hs.drop (i + 1)))) kv (by
            rw [e0, e1]
            conv => lhs; rw [e2]
            simp only [List.append_assoc, List.cons_append]) ow kl
          refine ⟨O, _, rfl, DPut.k (k := Sum.inr rr.1) eO w3, ?_⟩
          refine ⟨_, _, _, rfl, upd_same, ?_, ?_, fun b' o' e' => by rw [upd_ne (ne_of_none e' hO)]; exact s _ _ e'⟩
          · rw [List.take_add_one, hp', ← List.append_assoc]; exact w1
          · rw [List.take_add_one, hp', ← List.append_assoc]; exact w2
        · refine hideP fun Rz0 hRz0 => ?_
          obtain ⟨kv, o6, o7, eσ, eO, ow, kl, s⟩ := hz28
          subst hRz0
          subst eσ
          have l2 := pr2.length
          have e2 : (pairsR hh.name r).take ws.length = pairsR hh.name r := List.take_of_length_le (by unfold pairsR; rw [List.length_map]; omega)
          rw [e2] at ow kl
          refine ⟨kv, _, _, _, rfl, eO, ?_, ?_, s⟩
          · rw [List.take_add_one, hr', List.flatMap_append]; simpa using ow
          · rw [List.take_add_one, hr', List.flatMap_append]; simpa using kl
      · refine hideP fun Rz0 hRz0 => ?_
        obtain ⟨kv, o5, o6, o7, eσ, eO, ow, kl, s⟩ := hz25
        subst hRz0
        subst eσ
        rw [pr.length, List.take_length, ← pairsH_flat] at ow kl
        have e2 : pairsOf (hs.take (i + 1)) = pairsOf (hs.take i) ++ pairsH hh := by
          unfold pairsOf
          rw [List.take_add_one, hhi, List.flatMap_append]
          simp
        exact ⟨kv, _, _, _, _, rfl, eO, by rw [e2]; exact ow, by rw [e2]; exact kl, s⟩
    · refine hideP fun Rz0 hRz0 => ?_
      obtain ⟨kvo, o4, o5, o6, o7, eσ, eO, ow, kl, s1⟩ := hz22
      subst hRz0
      subst eσ
      rw [ph.length, List.take_length] at ow kl
      -- rows_here = sorted(hidden)
      refine ⟨dh, kvs, namesOf hs, rfl, s1 _ _ hdh, keys, by omega, fun l8 ss hl8 pm so => ?_⟩
      have s2 : Same H1 (upd H1 l8 (.lst (ss.map V.str))) := (Same.refl H1).upd hl8
      generalize eH2 : upd H1 l8 (.lst (ss.map V.str)) = H2 at s2
      have h8 : H2 l8 = some (.lst (ss.map V.str)) := by rw [← eH2]; exact upd_same
      have sH : Same H H2 := s1.trans s2
      have hp2 : PackAt H2 p := by obtain ⟨n, e, n0⟩ := hp; exact ⟨n, sH _ _ e, n0⟩
      refine fun F hF => ?_
      have nF : F ≠ p := fun z => by obtain ⟨n, e, _⟩ := hp2; rw [← z, hF] at e; cases e
      have n8 : l8 ≠ p := fun z => by
        obtain ⟨n, e, _⟩ := hp2
        rw [← z, h8] at e
        cases ss with
        | nil => cases e
        | cons s ss => cases e
      have nO : O ≠ p := fun z => by obtain ⟨n, e, _⟩ := hp2; rw [← z, s2 _ _ eO] at e; cases e
      have lss : ss.length = (namesOf hs).length := pm.length_eq
      have memS : ∀ x ∈ ss, x ∈ namesOf hs := fun x hx => pm.mem_iff.mp hx
      refine ⟨p, 7, rfl, hp2.new hF, by decide, by decide, fun n7 H3 n7a n7b hp3 s3 => ?_⟩
      have SB3 : SameB p H2 H3 := ((SameB.of (Same.refl H2)).new hF).trans s3
      refine ⟨n7, rfl, by omega, by omega, for_range (lo := 0) (n := n7.toNat) (PvF p lh dh O l8 F hs H2) ⟨[], _, _, _, _, _, _, _, _, _, _, rfl, hp3, SB3, s3 F _ nF upd_same, Nat.zero_le _, fun x hx => by simp at hx⟩ (fun i σ H' hi hz29 => ?_) (fun σ H' hz30 => ?_)⟩
      · refine hideP fun Rz0 hRz0 => ?_
        obtain ⟨kf, o4, o5, o6, o7, o10, o11, o12, o13, o14, o15, eσ, pk, sb, eF, kl, fo⟩ := hz29
        subst hRz0
        subst eσ
        refine ⟨l8, _, rfl, .inl (SqL.of (sb l8 _ n8 h8)), ?_⟩
        refine ite2 (fun c1 => ?_) (fun c1 => ⟨kf, _, _, _, _, _, _, _, _, _, _, rfl, pk, sb, eF, Nat.le_succ_of_le kl, fo⟩)
        have many : 1 < ss.length := by
          have z : (1 : Int) < ((ss.map V.str).length : Int) := of_decide_eq_true c1
          rw [List.length_map] at z; omega
        have pick : ∀ d : Int, 0 ≤ d → d < ((ss.map V.str).length : Int) → ∃ x, x ∈ ss ∧ atI (ss.map V.str) d = some (.str x) := fun d d0 d1 => by
          obtain ⟨n, rfl⟩ := Int.eq_ofNat_of_zero_le d0
          rw [List.length_map] at d1
          have hn : n < ss.length := by omega
          exact ⟨ss[n], List.getElem_mem hn, atI_nat (by rw [List.getElem?_map, List.getElem?_eq_getElem hn]; rfl)⟩
        have lenI : (0 : Int) < ((ss.map V.str).length : Int) ∧ ((ss.map V.str).length : Int) < 1073741824 := by rw [List.length_map]; omega
        refine asg_i fun W1 hW1 => ?_
        refine ⟨l8, _, rfl, .inl (SqL.of (sb l8 _ n8 h8)), ?_⟩
        refine ⟨p, _, rfl, pk, lenI.1, lenI.2, fun d1 Ha d1a d1b pka sa => ?_⟩
        have sba := sb.trans sa
        obtain ⟨one, m1, e1⟩ := pick d1 d1a d1b
        refine ixAt (sba l8 _ n8 h8) e1 ?_
        show W1 _ _
        subst hW1
        refine asg_i fun W2 hW2 => ?_
        refine ⟨l8, _, rfl, .inl (SqL.of (sba l8 _ n8 h8)), ?_⟩
        refine ⟨p, _, rfl, pka, lenI.1, lenI.2, fun d2 Hb d2a d2b pkb sb2 => ?_⟩
        have sbb := sba.trans sb2
        obtain ⟨other, m2, e2⟩ := pick d2 d2a d2b
        refine ixAt (sbb l8 _ n8 h8) e2 ?_
        show W2 _ _
        subst hW2
        refine asg_i fun W3 hW3 => ?_
        obtain ⟨g2, eg2⟩ := vals other (memS _ m2)
        obtain ⟨g1, eg1⟩ := vals one (memS _ m1)
        have hdb : Hb dh = some (.dK kvs) := sbb dh _ ndh (sH _ _ hdh)
        refine ⟨dh, _, rfl, eg2 ▸ DGet.k (k := Sum.inr other) hdb, ?_⟩
        refine ⟨dh, _, rfl, eg1 ▸ DGet.k (k := Sum.inr one) hdb, ?_⟩
        show W3 _ _
        subst hW3
        refine asg_i fun W4 hW4 => ?_
        refine ⟨p, 9, rfl, pkb, by decide, by decide, fun sk Hc sk0 sk1 pkc sc => ?_⟩
        show W4 _ _
        subst hW4
        have sbc := sbb.trans sc
        have eFc : Hc F = some (.dT kf) := (sa.trans (sb2.trans sc)) F _ nF eF
        have foc : FoundOk hs Hc kf := fun kv hkv => by
          refine hideP fun Rz0 hRz0 => ?_
          obtain ⟨l, w1, w2, w3⟩ := fo kv hkv
          subst hRz0
          exact ⟨l, w1, w2.ts (SameB.tups pk (sa.trans (sb2.trans sc))), w3⟩
        refine hideP fun Rz0 hRz0 => ?_
        obtain ⟨hh1, q1, q2, q3⟩ := owner_of ow (memS _ m1)
        subst hRz0
        refine hideP fun Rz0 hRz0 => ?_
        obtain ⟨hh2, r1, r2, r3⟩ := owner_of ow (memS _ m2)
        subst hRz0
        have hOc : Hc O = some (.dK kvo) := sbc O _ nO (s2 _ _ eO)
        refine ⟨O, _, rfl, q3 ▸ DGet.k (k := Sum.inr one) hOc, ?_⟩
        refine ⟨O, _, rfl, r3 ▸ DGet.k (k := Sum.inr other) hOc, ?_⟩
        have skip : ∀ (σ : St), (∃ o4 o5 o6 o7 o10 o11 o12 o13 o14 o15 : Option V, σ = [some (.ref p), some (.ref lh), some (.ref dh), some (.ref O), o4, o5, o6, o7, some (.ref l8), some (.ref F), o10, o11, o12, o13, o14, o15]) → ∃ (kf : List (List Key × V)) (o4 o5 o6 o7 o10 o11 o12 o13 o14 o15 : Option V), σ = [some (.ref p), some (.ref lh), some (.ref dh), some (.ref O), o4, o5, o6, o7, some (.ref l8), some (.ref F), o10, o11, o12, o13, o14, o15] ∧ PackAt Hc p ∧ SameB p H2 Hc ∧ Hc F = some (.dT kf) ∧ kf.length ≤ i + 1 ∧ FoundOk hs Hc kf := fun σ ⟨a4, a5, a6, a7, a10, a11, a12, a13, a14, a15, e⟩ => ⟨kf, a4, a5, a6, a7, a10, a11, a12, a13, a14, a15, e, pkc, sbc, eFc, Nat.le_succ_of_le kl, foc⟩
        refine ite2 (fun c2 => ?_) (fun c2 => skip _ ⟨_, _, _, _, _, _, _, _, _, _, rfl⟩)
        have hne : hh1.name ≠ hh2.name := fun z => by
          rw [decide_eq_true z] at c2
          cases c2
        refine ite2 (fun c3 => ?_) (fun c3 => skip _ ⟨_, _, _, _, _, _, _, _, _, _, rfl⟩)
        have gap0 : 0 < g2 - g1 := of_decide_eq_true c3
        refine asg_i fun W5 hW5 => ?_
        refine ⟨by show 3 ≤ sizeLine; omega, fun l3 hl3 => ?_⟩
        have nl3 : l3 ≠ p := fun z => by obtain ⟨n, e, _⟩ := pkc; rw [← z, hl3] at e; cases e
        refine ⟨p, 3, rfl, pkc.new hl3, by decide, by decide, fun d3 Hd d3a d3b pkd sd => ?_⟩
        have scd : SameB p Hc Hd := ((SameB.of (Same.refl Hc)).new hl3).trans sd
        obtain ⟨mo, emo, hmo⟩ : ∃ mo : Option Int, atI [V.non, .int (g2 - g1), .int (g2 - g1 + sk)] d3 = some (mostV mo) ∧ ∀ m, mo = some m → g2 - g1 ≤ m := by
          obtain ⟨n, rfl⟩ := Int.eq_ofNat_of_zero_le d3a
          match n, d3b with
          | 0, _ => exact ⟨none, rfl, fun m e => nomatch e⟩
          | 1, _ => exact ⟨some (g2 - g1), rfl, fun m e => by cases e; exact Int.le_refl _⟩
          | 2, _ => exact ⟨some (g2 - g1 + sk), rfl, fun m e => by cases e; omega⟩
          | n + 3, h => exact absurd h (by omega)
        refine ixAt (sd l3 _ nl3 upd_same) emo ?_
        show W5 _ _
        subst hW5
        refine ⟨1, g2 - g1 - sk, rfl, ?_⟩
        obtain ⟨lst, elst, hl1, hl2⟩ : ∃ lst : Int, lst = (if g2 - g1 - sk > 1 then g2 - g1 - sk else 1) ∧ 1 ≤ lst ∧ lst ≤ g2 - g1 := ⟨_, rfl, by split <;> omega, by split <;> omega⟩
        rw [← elst]
        refine ⟨by show 4 ≤ sizeLine; omega, fun t1 ht1 => ?_⟩
        refine ⟨by show 2 ≤ sizeLine; omega, fun t2 ht2 => ?_⟩
        have eFd : Hd F = some (.dT kf) := scd F _ nF eFc
        have eF1 : upd Hd t1 (.tup [.str one, .str other, .int lst, mostV mo]) F = some (.dT kf) := (upd_ne (ne_of_none eFd ht1)).trans eFd
        have eF2 : upd (upd Hd t1 (.tup [.str one, .str other, .int lst, mostV mo])) t2 (.tup [.str one, .str other]) F = some (.dT kf) := (upd_ne (ne_of_none eF1 ht2)).trans eF1
        refine ⟨F, _, rfl, DPut.t (k := kP (one, other)) eF2 upd_same (by omega), ?_⟩
        have tt : Tups Hc (upd (upd (upd Hd t1 (.tup [.str one, .str other, .int lst, mostV mo])) t2 (.tup [.str one, .str other])) F (.dT (putK kf (kP (one, other)) (.ref t1)))) := (((SameB.tups pkc scd).new ht1).new ht2).put eF2 (fun _ z => nomatch z)
        have et1 : upd (upd (upd Hd t1 (.tup [.str one, .str other, .int lst, mostV mo])) t2 (.tup [.str one, .str other])) F (.dT (putK kf (kP (one, other)) (.ref t1))) t1 = some (.tup [.str one, .str other, .int lst, mostV mo]) := by
          rw [upd_ne (ne_of_none eFd ht1).symm, upd_ne (ne_of_none upd_same ht2)]; exact upd_same
        refine ⟨_, _, _, _, _, _, _, _, _, _, _, rfl, ((pkd.new ht1).new ht2).put nF, fun b o hb e => ?_, upd_same, ?_, fun kv hkv => ?_⟩
        · have z1 := (sbc.trans scd) b o hb e
          rw [upd_ne (ne_of_none e hF)]
          exact (((SameB.of (Same.refl Hd)).new ht1).new ht2) b o hb z1
        · exact Nat.le_trans (length_putK kf (kP (one, other)) (.ref t1)) (Nat.add_le_add_right kl 1)
        · rcases mem_putK hkv with z | z
          · subst z
            exact ⟨((one, other), lst, mo), rfl, ⟨t1, rfl, et1⟩, names_good gh (memS _ m1), names_good gh (memS _ m2), hl1, fun m e => by have := hmo m e; show lst ≤ m; omega, hh1, q1, hh2, r1, q2, r2, hne⟩
          · refine hideP fun Rz0 hRz0 => ?_
            obtain ⟨l, w1, w2, w3⟩ := foc kv z
            subst hRz0
            exact ⟨l, w1, w2.ts tt, w3⟩
      · refine hideP fun Rz0 hRz0 => ?_
        obtain ⟨kf, o4, o5, o6, o7, o10, o11, o12, o13, o14, o15, eσ, pk, sb, eF, kl, fo⟩ := hz30
        subst hRz0
        subst eσ
        obtain ⟨ks, ek, lk⟩ := fo.keys
        refine ⟨F, kf, ks, rfl, eF, ek, by omega, fun l9 as ks' hl9 pm' pw la ha => ?_⟩
        have lks : ks'.length = ks.length := pm'.length_eq
        have s9 : Same H' (upd H' l9 (.lst (as.map V.ref))) := (Same.refl H').upd hl9
        generalize eH9 : upd H' l9 (.lst (as.map V.ref)) = H9 at s9
        have h9 : H9 l9 = some (.lst (as.map V.ref)) := by rw [← eH9]; exact upd_same
        refine ⟨l9, rfl, ⟨_, SqL.of h9⟩, fun D hD => comp_list (xs := as.map V.ref) (fun i H'' => ∃ (zs : List V) (ls : List Letter), Grow H9 H'' D zs ∧ Paired (LetterAt H9) zs ls ∧ ls.map Prod.fst = ks'.take i ∧ ∀ l ∈ ls, GoodLetter hs l) ⟨[], [], Grow.start hD, .nil, rfl, fun l hl => by simp at hl⟩ (fun i H'' _ hz31 => by obtain ⟨_, _, G, _⟩ := hz31; exact SqL.of (G.same _ _ h9)) (fun H'' hz32 => ?_) (fun i x H'' hx hi hz33 b => ?_)⟩
        · refine hideP fun Rz0 hRz0 => ?_
          obtain ⟨zs, ls, G, pz, el, gl⟩ := hz32
          subst hRz0
          have lx : ks'.take (as.map V.ref).length = ks' := List.take_of_length_le (by rw [List.length_map]; omega)
          rw [lx] at el
          have l1 := congrArg List.length el
          rw [List.length_map] at l1
          have l2 := pz.length
          refine ⟨D, zs, rfl, .inl ⟨SqL.of G.at', fun t ht => ?_⟩⟩
          refine q (.ref t) ls _ ⟨t, zs, rfl, upd_same, paired_mono (fun _ _ z => z.ts (G.same.tups.new ht)) pz⟩ ⟨by omega, gl, by rw [el]; exact pw⟩ ?_ ?_
          · obtain ⟨n, e, n0⟩ := pk
            exact (show PackAt H'' p from ⟨n, G.same _ _ (s9 _ _ e), n0⟩).new ht
          · exact (((SameB.of sH).trans (sb.trans (SameB.of (s9.trans G.same)))).new ht)
        · refine hideP fun Rz0 hRz0 => ?_
          obtain ⟨zs, ls, G, pz, el, gl⟩ := hz33
          subst hRz0
          rw [List.getElem?_map] at hx
          obtain ⟨a, ea, rfl⟩ : ∃ a, as[i]? = some a ∧ x = V.ref a := by
            cases e : as[i]? with
            | none => rw [e] at hx; cases hx
            | some a => rw [e] at hx; exact ⟨a, rfl, (Option.some.inj hx).symm⟩
          have li : i < ks'.length := by rw [List.length_map] at hi; omega
          have eki : ks'[i]? = some ks'[i] := List.getElem?_eq_getElem li
          have hka : H' a = some (.tup ((kP ks'[i]).map kV)) := ha i a _ ea eki
          have mk : kP ks'[i] ∈ kf.map (·.1) := by
            rw [ek]
            exact List.mem_map_of_mem (pm'.mem_iff.mp (List.getElem_mem li))
          obtain ⟨v, ev, mv⟩ := valV_mem mk
          refine hideP fun Rz0 hRz0 => ?_
          obtain ⟨l, w1, w2, w3⟩ := fo _ mv
          subst hRz0
          have el1 : l.1 = ks'[i] := (kP_inj w1).symm
          have sg : Same H' H'' := s9.trans G.same
          refine ⟨F, v, rfl, ev ▸ DGet.t (k := kP ks'[i]) (sg _ _ eF) (sg _ _ hka), ?_⟩
          have l2 := pz.length
          have l1 := congrArg List.length el
          rw [List.length_map, List.length_take] at l1
          refine ⟨zs, G.at', by omega, nx hi ⟨zs ++ [v], ls ++ [l], G.put hD v, paired_app pz (.cons (w2.ts s9.tups) .nil), ?_, fun l' hl' => ?_⟩⟩
          · rw [List.map_append, el, List.take_add_one, eki]
            show _ ++ [l.1] = _ ++ [ks'[i]]
            rw [el1]
          · rcases List.mem_append.mp hl' with z | z
            · exact gl l' z
            · rw [List.mem_singleton.mp z]; exact w3
end
end K49
namespace K49
open PySem L2 K02
noncomputable def spMkLedger (K : PySem.W.Frag) : Sp := fun vs H Q _ => ∃ (a : Addr) (ns : List Int) (k : Int), vs = [.ref a, .int k] ∧ SqL K H a (ns.map V.int) ∧ (∀ n ∈ ns, Bits n) ∧ ns.length ≤ 63 ∧ 0 ≤ k ∧ k ≤ 100 ∧ ∀ (x : V) (hs : List House) (ls : List Letter) (H' : Hp), LedgerAt H' x hs ls → GoodHouses hs → GoodLetters hs ls → (∀ z ∈ hs.map House.name, z ∈ nmL) → Same H H' → Q x H'
section
variable {P : Program} {w : World} {K : PySem.W.Frag} {mg : Str → Option Value} {base : Heap} {t8 : Tok}
theorem sc_mkledger : FnScope ["_law_script", "_law_k", "_law_head", "_law_names_here", "_law_amount", "_law_houses", "_law_hidden", "_law_room", "_law_j", "_law_rest", "_law_house_here", "_law_more"] ["_law_script", "_law_k"] (defScope sMkLedger) := ⟨rfl, rfl, rfl, by decide +kernel, rfl, by decide +kernel, by decide +kernel⟩
theorem ok_mkledger {f f_pack f_names f_take f_mkhouse f_mkletters : Addr} {fd fd_pack fd_names fd_take fd_mkhouse fd_mkletters : FuncData} (F : Fun K "_law_ledger" "_law_ledger" sMkLedger f fd) (T : Txt mg t8)
    (G_pack : FnOk P w K mg base CX0 2 f_pack fd_pack ["_law_script", "_law_k"] (spPack K)) (m_pack : mg "_law_pack" = some (.ref f_pack)) (k_pack : PySem.W.keepIn K (.ref f_pack) = true) (b_pack : Binds K fd_pack ["_law_script", "_law_k"] [])
    (G_names : FnOk P w K mg base CX0 2 f_names fd_names ["_law_pack_here", "_law_amount"] spNames) (m_names : mg "_law_names" = some (.ref f_names)) (k_names : PySem.W.keepIn K (.ref f_names) = true) (b_names : Binds K fd_names ["_law_pack_here", "_law_amount"] [])
    (G_take : FnOk P w K mg base CX0 2 f_take fd_take ["_law_pack_here", "_law_size"] spTake) (m_take : mg "_law_take" = some (.ref f_take)) (k_take : PySem.W.keepIn K (.ref f_take) = true) (b_take : Binds K fd_take ["_law_pack_here", "_law_size"] [])
    (G_mkhouse : FnOk P w K mg base CX0 2 f_mkhouse fd_mkhouse ["_law_pack_here", "_law_name", "_law_names_here", "_law_room"] spMkHouse) (m_mkhouse : mg "_law_house" = some (.ref f_mkhouse)) (k_mkhouse : PySem.W.keepIn K (.ref f_mkhouse) = true) (b_mkhouse : Binds K fd_mkhouse ["_law_pack_here", "_law_name", "_law_names_here", "_law_room"] [])
    (G_mkletters : FnOk P w K mg base CX0 2 f_mkletters fd_mkletters ["_law_pack_here", "_law_houses", "_law_hidden"] spMkLetters) (m_mkletters : mg "_law_letters" = some (.ref f_mkletters)) (k_mkletters : PySem.W.keepIn K (.ref f_mkletters) = true) (b_mkletters : Binds K fd_mkletters ["_law_pack_here", "_law_houses", "_law_hidden"] []) : FnOk P w K mg base CX0 3 f fd ["_law_script", "_law_k"] (spMkLedger K) := by
  refine F.ok sc_mkledger (fun vs H Q E h => ?_) (fun cdv A outer s H vs Q E hr h => ?_)
  · obtain ⟨a, ns, k, rfl, _⟩ := h
    rfl
  · obtain ⟨a, ns, k, rfl, ha, hb, hl, k0, k1, q⟩ := h
    have sl0 : sizeLine = 16777216 := sizeLine_eq
    refine ⟨_, (pss_cons (ps_set (i := 2) sc_mkledger.nd rfl (Or.inl rfl) (pe_call G_pack hr rfl m_pack k_pack b_pack .nil pass0 (pa_cons (pV 0) (pa_cons (pV 1) pa_nil)))) (pss_cons (ps_set (i := 3) sc_mkledger.nd rfl (Or.inl rfl) (pe_call G_names hr rfl m_names k_names b_names .nil pass0 (pa_cons (pV 2) (pa_cons pe_int pa_nil)))) (pss_cons (ps_set (i := 4) sc_mkledger.nd rfl (Or.inl rfl) (pe_op oAdd pe_int (pe_call G_take hr rfl m_take k_take b_take .nil pass0 (pa_cons (pV 2) (pa_cons pe_int pa_nil))))) (pss_cons (ps_set (i := 5) sc_mkledger.nd rfl (Or.inl rfl) (pe_lst pa_nil)) (pss_cons (ps_set (i := 6) sc_mkledger.nd rfl (Or.inl rfl) pe_dnewK) (pss_cons (ps_set (i := 7) sc_mkledger.nd rfl (Or.inl rfl) pe_int) (pss_cons (ps_for PassesOwn.never rfl (pi_range1 rfl T.range (pa_cons (pV 4) pa_nil)) (pg_name (i := 8) sc_mkledger.nd rfl (Or.inl rfl)) (pss_cons (ps_set (i := 9) sc_mkledger.nd rfl (Or.inl rfl) (pe_slice sl_list (pV 3) (poI (pe_callB call_lenD rfl T.len PySem.boot_len (pa_cons (pV 6) pa_nil))) (poI pe_int))) (pss_cons (ps_asg (pe_call G_mkhouse hr rfl m_mkhouse k_mkhouse b_mkhouse .nil pass0 (pa_cons (pe_call G_pack hr rfl m_pack k_pack b_pack .nil pass0 (pa_cons (pV 0) (pa_cons (pe_op oAdd (pe_op oAdd (pV 1) pe_int) (pV 8)) pa_nil))) (pa_cons (pe_ix iIx (pe_lst (pa_cons pe_str (pa_cons pe_str (pa_cons pe_str (pa_cons pe_str pa_nil))))) (pV 8) (fun _ _ => rfl)) (pa_cons (pV 9) (pa_cons (pV 7) pa_nil))))) (pg_tup rfl (pgs_cons (pg_name (i := 10) sc_mkledger.nd rfl (Or.inl rfl)) (pgs_cons (pg_name (i := 11) sc_mkledger.nd rfl (Or.inl rfl)) pgs_nil)))) (pss_cons (ps_expr (pe_bm PySem.F.plainAttrs_list PySem.F.slot_list_append PySem.F.type_list_append mt_append (pV 5) (pa_cons (pV 10) pa_nil))) (pss_cons (ps_expr (pe_bm PySem.F.plainAttrs_dict PySem.F.slot_dict_update PySem.F.type_dict_update mt_update (pV 6) (pa_cons (pV 11) pa_nil))) (pss_one (ps_set (i := 7) sc_mkledger.nd rfl (Or.inl rfl) (pe_op oSub pe_int (pe_callB call_lenD rfl T.len PySem.boot_len (pa_cons (pV 6) pa_nil)))))))))) (pss_one (ps_ret (pe_tup (pa_cons (pe_callTy call_tuple_of rfl T.tuple PyProof.Rows.boot_tuple (pa_cons (pV 5) pa_nil)) (pa_cons (pe_call G_mkletters hr rfl m_mkletters k_mkletters b_mkletters .nil pass0 (pa_cons (pe_call G_pack hr rfl m_pack k_pack b_pack .nil pass0 (pa_cons (pV 0) (pa_cons (pe_op oAdd (pV 1) pe_int) pa_nil))) (pa_cons (pV 5) (pa_cons (pV 6) pa_nil)))) pa_nil)))))))))))), ?_⟩
    refine asg_i fun U1 hU1 => ?_
    refine ⟨a, ns, k, rfl, ha, hb, hl, k0, by omega, fun hd H1 fhd pk1 s1 => ?_⟩
    show U1 _ _
    subst hU1
    refine asg_i fun U2 hU2 => ?_
    refine ⟨hd, rfl, pk1, fun ln ss H2 fln eln l12 nd gs nq pk2 sb2 => ?_⟩
    show U2 _ _
    subst hU2
    have S2 : Same H H2 := same_new s1 fhd sb2
    refine asg_i fun U3 hU3 => ?_
    refine ⟨hd, 4, rfl, pk2, by decide, by decide, fun d4 H3 d4a d4b pk3 sb3 => ?_⟩
    show U3 _ _
    subst hU3
    have S3 : Same H H3 := same_new S2 fhd sb3
    have nlnh : ln ≠ hd := fun z => by obtain ⟨n, e, _⟩ := pk1; rw [← z, fln] at e; cases e
    have eln3 : H3 ln = some (.lst (ss.map V.str)) := sb3 ln _ nlnh eln
    refine asg_i fun U4 hU4 => ?_
    refine ⟨Nat.zero_le _, fun lh flh => ?_⟩
    show U4 _ _
    subst hU4
    refine asg_i fun U5 hU5 => ?_
    refine fun dh fdh => ?_
    show U5 _ _
    subst hU5
    have S4 : Same H3 (upd (upd H3 lh (.lst [])) dh (.dK [])) := ((Same.refl H3).upd flh).upd fdh
    have nld : lh ≠ dh := ne_of_none upd_same fdh
    have eln4 := S4 _ _ eln3
    have e12 : ss.length = 12 := l12
    refine ⟨1 + d4, rfl, by omega, by omega, for_range (lo := 0) (n := (1 + d4).toNat) (PvG a hd ln lh dh k d4 ss H3) ⟨[], [], [], 0, none, none, none, none, rfl, (upd_ne nld).trans upd_same, .nil, upd_same, rfl, fun n hn => by simp [namesOf] at hn, rfl, by decide, rfl, rfl, fun h hh => by simp at hh, S4⟩ (fun i σ H' hi hz34 => ?_) (fun σ H' hz35 => ?_)⟩
    · refine hideP fun Rz0 hRz0 => ?_
      obtain ⟨vh, hs, kvs, m, o8, o9, o10, o11, eσ, elh, ph, edh, keys, vals, nms, m10, lhs, hnm, gh, S⟩ := hz34
      subst hRz0
      subst eσ
      have i4 : i < 4 := by omega
      have lkv : kvs.length = m := by
        have z := congrArg List.length keys
        rw [List.length_map, List.length_map, nms, List.length_take] at z
        omega
      have SH : Same H H' := S3.trans S
      refine ⟨dh, kvs, rfl, edh, ?_⟩
      refine ⟨ln, _, rfl, SqL.of (S _ _ eln3), fun lr flr => ?_⟩
      have ecut : cutV (ss.map V.str) (some (kvs.length : Int)) (some 10) = ((ss.take 10).drop m).map V.str := by
        unfold cutV
        rw [show (some 10 : Option Int) = some ((10 : Nat) : Int) from rfl, HT.sIx_nat, HT.sIx_nat, List.length_map, l12, lkv, Nat.min_eq_left (show m ≤ 12 by omega), Nat.min_eq_left (show 10 ≤ 12 by decide), ← List.map_drop, ← List.map_take, List.drop_take]
      rw [ecut]
      have s5 : Same H' (upd H' lr (.lst (((ss.take 10).drop m).map V.str))) := (Same.refl H').upd flr
      generalize eH5 : upd H' lr (.lst (((ss.take 10).drop m).map V.str)) = H5 at s5
      have elr : H5 lr = some (.lst (((ss.take 10).drop m).map V.str)) := by rw [← eH5]; exact upd_same
      have SH5 : Same H H5 := SH.trans s5
      refine ⟨a, ns, k + 1 + (0 + (i : Int)), rfl, sql_same SH5 ha, hb, hl, by omega, by omega, fun p H6 fp pk6 s6 => ?_⟩
      refine ⟨by show 4 ≤ sizeLine; omega, fun l4 fl4 => ?_⟩
      obtain ⟨nm, enm⟩ : ∃ nm, nmL[i]? = some nm := ⟨nmL[i], List.getElem?_eq_getElem (show i < 4 from i4)⟩
      have eat : atI (nmL.map V.str) (0 + (i : Int)) = some (.str nm) := by
        rw [Int.zero_add]
        exact atI_nat (by rw [List.getElem?_map, enm]; rfl)
      refine ixAt (xs := nmL.map V.str) upd_same eat ?_
      have gnm : Good nm := nm_good nm (List.mem_of_getElem? enm)
      have s7 : Same H5 (upd H6 l4 (.lst (nmL.map V.str))) := s6.upd fl4
      have pk7 : PackAt (upd H6 l4 (.lst (nmL.map V.str))) p := pk6.new fl4
      have ssl : ((ss.take 10).drop m).length = 10 - m := by rw [List.length_drop, List.length_take]; omega
      have sub : ((ss.take 10).drop m).Sublist ss := (List.drop_sublist _ _).trans (List.take_sublist _ _)
      refine ⟨p, nm, lr, (ss.take 10).drop m, 10 - (m : Int), rfl, pk7, gnm, s7 _ _ elr, by omega, sub.nodup nd, fun s hs' => gs s (sub.subset hs'), fun r d hv hh kv m' H8 fr fd er hat ghh ehn enames le rm ed keys2 vals2 pk8 sb8 => ?_⟩
      have fp5 : H5 p = none := fp
      have S8 : Same H5 H8 := same_new s7 fp5 sb8
      refine ⟨r, _, rfl, SqT.of er, rfl, _, _, rfl, _, _, rfl, rfl, ?_⟩
      have elh8 : H8 lh = some (.lst vh) := S8 _ _ (s5 _ _ elh)
      have edh8 : H8 dh = some (.dK kvs) := S8 _ _ (s5 _ _ edh)
      refine ⟨.inl ⟨rfl, _, SqL.of elh8⟩, ?_⟩
      have lv := ph.length
      refine ⟨lh, vh, _, rfl, rfl, elh8, by omega, ?_⟩
      have ndd : dh ≠ d := fun z => by
        rw [← z] at fd
        have w := (s7 _ _ (s5 _ _ edh))
        cases (fd.symm.trans w)
      have nlhdh : dh ≠ lh := fun z => by rw [z, elh8] at edh8; cases edh8
      have nlhd : d ≠ lh := fun z => by rw [z, elh8] at ed; cases ed
      have edh9 : upd H8 lh (.lst (vh ++ [hv])) dh = some (.dK kvs) := (upd_ne nlhdh).trans edh8
      have ed9 : upd H8 lh (.lst (vh ++ [hv])) d = some (.dK kv) := (upd_ne nlhd).trans ed
      have lkv2 : kv.length = m' := by
        have z := congrArg List.length keys2
        rw [List.length_map, List.length_map, List.length_take] at z
        omega
      refine ⟨.inr (.inr (.inl ⟨rfl, .inl ⟨_, edh9⟩⟩)), ?_⟩
      refine ⟨dh, d, kvs, kv, rfl, rfl, ndd, edh9, ed9, by omega, ?_⟩
      have mm : m + m' ≤ 10 := by omega
      have e10 : namesOf (hs ++ [hh]) = ss.take (m + m') := by
        have z : namesOf (hs ++ [hh]) = namesOf hs ++ namesH hh := by unfold namesOf; rw [List.flatMap_append]; simp
        rw [z, nms, enames, List.drop_take, List.take_take, List.take_add, Nat.min_eq_left (by omega)]
      have ndk : (ss.take (m + m')).Nodup := (List.take_sublist _ _).nodup nd
      have e10' : ss.take (m + m') = ss.take m ++ ((ss.take 10).drop m).take m' := by
        rw [← e10]
        unfold namesOf
        rw [List.flatMap_append]
        have z : hs.flatMap namesH = ss.take m := nms
        rw [z, ← enames]; simp
      have inj : ∀ l : List Str, l.Nodup → (l.map (Sum.inr : Str → Key)).Nodup := fun l hl => by
        rw [List.nodup_iff_pairwise_ne, List.pairwise_map]
        exact (List.nodup_iff_pairwise_ne.mp hl).imp fun h z => h (Sum.inr.inj z)
      have ndk2 := inj _ ndk
      rw [e10', List.map_append] at ndk2
      obtain ⟨nda, ndb, ndc⟩ := List.nodup_append.mp ndk2
      have emk : mergeK kvs kv = kvs ++ kv := mergeK_app kv kvs (by rw [keys2]; exact ndb) (fun x hx z => by
        rw [keys2] at hx
        rw [keys, nms] at z
        exact ndc x z x hx rfl)
      rw [emk]
      have tt : Tups H8 (upd (upd H8 lh (.lst (vh ++ [hv]))) dh (.dK (kvs ++ kv))) := ((Tups.refl H8).put elh8 (fun _ z => nomatch z)).put edh9 (fun _ z => nomatch z)
      refine ⟨dh, _, rfl, upd_same, ?_⟩
      refine ⟨vh ++ [hv], hs ++ [hh], kvs ++ kv, m + m', some (.int (0 + (i : Int))), some (.ref lr), some hv, some (.ref d), ?_, (upd_ne (Ne.symm nlhdh)).trans upd_same, ?_, upd_same, ?_, ?_, e10, mm, by rw [List.length_append, lhs]; rfl, ?_, ?_, ?_⟩
      · have el : (10 - ((kvs ++ kv).length : Int)) = 10 - ((m + m' : Nat) : Int) := by rw [List.length_append, lkv, lkv2]
        show [_, _, _, _, _, _, _, some (V.int (10 - ((kvs ++ kv).length : Int))), _, _, _, _] = _
        rw [el]
      · refine paired_app (paired_mono (fun _ _ z => (z.ts s5.tups).ts (S8.tups.trans tt)) ph) (.cons (hat.ts tt) .nil)
      · rw [List.map_append, keys, keys2, e10, nms, e10', List.map_append]
      · intro n hn
        rw [e10, e10'] at hn
        rw [valV_app]
        rcases List.mem_append.mp hn with z | z
        · obtain ⟨v, ev⟩ := vals n (by rw [nms]; exact z)
          exact ⟨v, by rw [ev]; rfl⟩
        · obtain ⟨v, ev⟩ := vals2 n z
          refine ⟨v, ?_⟩
          have no : valV kvs (.inr n) = none := valV_none (fun y => by
            rw [keys, nms] at y
            exact ndc (Sum.inr n) y (Sum.inr n) (List.mem_map_of_mem z) rfl)
          rw [no, ev]; rfl
      · rw [List.map_append, hnm, List.take_add_one, enm, ← ehn]; rfl
      · intro h hh'
        rcases List.mem_append.mp hh' with z | z
        · exact gh h z
        · rw [List.mem_singleton.mp z]; exact ghh
      · intro b o e
        have z := S8 _ _ (s5 _ _ (S _ _ e))
        have n1 : b ≠ lh := ne_of_none e flh
        have n2 : b ≠ dh := fun y => by
          rw [y] at e
          have := (upd_ne (o := .lst []) (Ne.symm nld)).trans e
          rw [fdh] at this; cases this
        rw [upd_ne n2, upd_ne n1]; exact z
    · refine hideP fun Rz0 hRz0 => ?_
      obtain ⟨vh, hs, kvs, m, o8, o9, o10, o11, eσ, elh, ph, edh, keys, vals, nms, m10, lhs, hnm, gh, S⟩ := hz35
      subst hRz0
      subst eσ
      have SH : Same H H' := S3.trans S
      have lv := ph.length
      have ln' : hs.length ≤ 4 := by omega
      refine ⟨lh, vh, rfl, .inl ⟨SqL.of elh, fun t1 ft1 => ?_⟩⟩
      have s5 : Same H' (upd H' t1 (.tup vh)) := (Same.refl H').upd ft1
      generalize eH5 : upd H' t1 (.tup vh) = H5 at s5
      have et1 : H5 t1 = some (.tup vh) := by rw [← eH5]; exact upd_same
      refine ⟨a, ns, k + 5, rfl, sql_same (SH.trans s5) ha, hb, hl, by omega, by omega, fun p H6 fp pk6 s6 => ?_⟩
      have s56 : Same H' H6 := s5.trans s6
      have ndn : (namesOf hs).Nodup := by rw [nms]; exact (List.take_sublist _ _).nodup nd
      have fewn : (namesOf hs).length ≤ 24 := by rw [nms, List.length_take]; omega
      refine ⟨p, lh, dh, vh, hs, kvs, rfl, pk6, s56 _ _ elh, paired_mono (fun _ _ z => z.ts s56.tups) ph, by omega, gh, ndn, fewn, s56 _ _ edh, keys, vals, fun x ls H7 lat gl pk7 sb7 => ?_⟩
      have S7 : Same H5 H7 := same_new s6 fp sb7
      refine ⟨by show 2 ≤ sizeLine; omega, fun t ft => ?_⟩
      have S7t : Same H5 (upd H7 t (.tup [.ref t1, x])) := S7.upd ft
      refine q (.ref t) hs ls _ ⟨t, .ref t1, x, rfl, upd_same, ⟨t1, vh, rfl, S7t _ _ et1, paired_mono (fun _ _ z => z.ts (s5.trans S7t).tups) ph⟩, lat.ts ((Tups.refl H7).new ft)⟩ ⟨by omega, by omega, gh, by rw [hnm]; exact (List.take_sublist _ _).nodup nm_nodup, ndn, fewn⟩ gl (fun z hz => List.mem_of_mem_take (hnm ▸ hz)) (SH.trans (s5.trans S7t))
theorem sc_rows : FnScope ["_law_ledger_here", "_law_found", "_law_house_here", "_law_run"] ["_law_ledger_here"] (defScope sRows) := ⟨rfl, rfl, rfl, by decide +kernel, rfl, by decide +kernel, by decide +kernel⟩
theorem ok_rows {f : Addr} {fd : FuncData} (F : Fun K "_law_rows" "_law_rows" sRows f fd) (T : Txt mg t8) : FnOk P w K mg base CX0 1 f fd ["_law_ledger_here"] spRows := by
  refine F.ok sc_rows (fun vs H Q E h => ?_) (fun cdv A outer s H vs Q E hr h => ?_)
  · obtain ⟨x, hs, ls, rfl, _⟩ := h
    rfl
  · obtain ⟨x, hs, ls, rfl, ⟨a, y, z, rfl, ha, ⟨c, vh, rfl, hc, ph⟩, hL⟩, gh, q⟩ := h
    have sl0 : sizeLine = 16777216 := sizeLine_eq
    refine ⟨_, (pss_cons (ps_set (i := 1) sc_rows.nd rfl (Or.inl rfl) (pe_lst pa_nil)) (pss_cons (ps_for PassesOwn.never rfl (pi_tup (pe_ix iIxT (pV 0) pe_int (fun _ _ => rfl))) (pg_name (i := 2) sc_rows.nd rfl (Or.inl rfl)) (pss_one (ps_for PassesOwn.never rfl (pi_tup (pe_ix iIxT (pV 2) pe_int (fun _ _ => rfl))) (pg_name (i := 3) sc_rows.nd rfl (Or.inl rfl)) (pss_one (ps_expr (pe_bm PySem.F.plainAttrs_list PySem.F.slot_list_extend PySem.F.type_list_extend mt_extend (pV 1) (pa_cons (pe_comp (scX := defScope sRows) (own := ["_law_row", "_law_reading"]) (cap := []) (ix := []) rfl rfl ⟨rfl, by decide +kernel, by decide +kernel, by decide +kernel, rfl, by decide +kernel⟩ (pi_tup (pV 3)) (fun b => (pg_tup rfl (pgs_cons (pg_name (i := 0) (show (["_law_row", "_law_reading"] : List Str).Nodup by decide +kernel) rfl (Or.inl rfl)) (pgs_cons (pg_name (i := 1) (show (["_law_row", "_law_reading"] : List Str).Nodup by decide +kernel) rfl (Or.inl rfl)) pgs_nil)))) (fun b => pif_nil) (fun b => (pV 0))) pa_nil))))))) (pss_one (ps_ret (pe_callB call_sorted rfl T.sorted PyProof.Rows.boot_sorted (pa_cons (pV 1) pa_nil)))))), ?_⟩
    refine ⟨Nat.zero_le _, fun D hD => ?_⟩
    have s0 : Same H (upd H D (.lst [])) := (Same.refl H).upd hD
    refine ixTup (SqT.of (s0 _ _ ha)) (i := 0) (v := .ref c) (by rfl) ?_
    refine ⟨c, rfl, ⟨_, SqT.of (s0 _ _ hc)⟩, for_tup (xs := vh) (fun i σ H' => ∃ o2 o3 : Option V, σ = [some (.ref a), some (.ref D), o2, o3] ∧ Grow H H' D (((hs.take i).flatMap namesH).map V.str)) ⟨none, none, rfl, Grow.start hD⟩ (fun i σ H' _ hz10 => by obtain ⟨_, _, _, G⟩ := hz10; exact SqT.of (G.same _ _ hc)) (fun i x σ H' hx hz11 => ?_) (fun σ H' hz12 => ?_)⟩
    · refine hideP fun Rz0 hRz0 => ?_
      obtain ⟨o2, o3, eσ, G⟩ := hz11
      subst hRz0
      subst eσ
      refine hideP fun Rz0 hRz0 => ?_
      obtain ⟨hh, hhi, b, d, ez34, gb, c2, vr, ez35, gc, pr⟩ := paired_getL ph hx
      subst hRz0
      subst ez34
      subst ez35
      refine ixTup (SqT.of (G.same _ _ gb)) (i := 4) (v := .ref c2) (by rfl) ?_
      refine ⟨c2, rfl, ⟨_, SqT.of (G.same _ _ gc)⟩, for_tup (xs := vr) (fun j σ H' => ∃ o3 : Option V, σ = [some (.ref a), some (.ref D), some (.ref b), o3] ∧ Grow H H' D (((hs.take i).flatMap namesH ++ (hh.runs.take j).flatten.map Prod.fst).map V.str)) ⟨o3, rfl, by simpa using G⟩ (fun j σ H' _ hz13 => by obtain ⟨_, _, G⟩ := hz13; exact SqT.of (G.same _ _ gc)) (fun j y σ H' hy hz14 => ?_) (fun σ H' hz15 => ?_)⟩
      · obtain ⟨o3, eσ, G⟩ := hz14
        subst eσ
        refine hideP fun Rz0 hRz0 => ?_
        obtain ⟨r, hri, c3, ws, ez36, gw, pw⟩ := paired_getL pr hy
        subst hRz0
        subst ez36
        have gd := gh.all hh (List.mem_of_getElem? hhi)
        have gr := gd.runs r (List.mem_of_getElem? hri)
        have few := gr.few
        have lw := pw.length
        refine ⟨.inl ⟨rfl, _, SqL.of G.at'⟩, ?_⟩
        refine ⟨c3, rfl, ⟨_, SqT.of (G.same _ _ gw)⟩, fun E' hE => comp_map (xs := ws) (ys := r.map fun x => V.str x.1) hE (SqT.of (G.same _ _ gw)) (by omega) (by rw [List.length_map]; omega) (fun t x H2 hx s2 b R hR => ?_) (fun H2 s2 e2 => ?_)⟩
        · obtain ⟨rr, hrr, ra⟩ := paired_getL pw hx
          obtain ⟨a1, rfl, g1⟩ := ra.ts (G.same.trans s2).tups
          refine ⟨a1, _, rfl, SqT.of g1, rfl, _, _, rfl, _, _, rfl, rfl, ?_⟩
          exact hR H2 _ (by rw [List.getElem?_map, hrr]; rfl) (Same.refl _)
        · have G2 := G.more s2
          have total : ((hs.take i).flatMap namesH ++ (hh.runs.take j).flatten.map Prod.fst).length + r.length ≤ 24 := by
            have z := gh.few
            have e1 : hs = hs.take i ++ (hh :: hs.drop (i + 1)) := by
              obtain ⟨li, fi⟩ := List.getElem?_eq_some_iff.mp hhi
              rw [← fi, List.getElem_cons_drop, List.take_append_drop]
            have e2 : hh.runs = hh.runs.take j ++ (r :: hh.runs.drop (j + 1)) := by
              obtain ⟨li, fi⟩ := List.getElem?_eq_some_iff.mp hri
              rw [← fi, List.getElem_cons_drop, List.take_append_drop]
            have e3 : namesOf hs = (hs.take i).flatMap namesH ++ (namesH hh ++ (hs.drop (i + 1)).flatMap namesH) := by
              unfold namesOf
              conv => lhs; rw [e1]
              rw [List.flatMap_append, List.flatMap_cons]
            have e4 : namesH hh = ((hh.runs.take j).flatten ++ (r ++ (hh.runs.drop (j + 1)).flatten)).map Prod.fst := by
              unfold namesH rowsH
              conv => lhs; rw [e2]
              rw [List.flatten_append, List.flatten_cons]
            rw [e3, e4] at z
            simp only [List.length_append, List.length_map] at z ⊢
            omega
          refine ⟨D, E', _, _, rfl, rfl, G2.at', e2, by rw [List.length_map, List.length_map]; omega, ?_⟩
          refine ⟨_, rfl, ⟨?_, fun b o e => by rw [upd_ne (ne_of_none e hD)]; exact G2.same _ _ e⟩⟩
          rw [upd_same, List.take_add_one, hri, List.flatten_append]
          simp
      · obtain ⟨o3, eσ, G⟩ := hz15
        subst eσ
        refine ⟨_, _, rfl, ?_⟩
        rw [pr.length, List.take_length] at G
        rw [List.take_add_one, hhi, List.flatMap_append]
        simpa [namesH, rowsH] using G
    · refine hideP fun Rz0 hRz0 => ?_
      obtain ⟨o2, o3, eσ, G⟩ := hz12
      subst hRz0
      subst eσ
      have e := G.at'
      rw [ph.length, List.take_length] at e
      have few := gh.few
      refine ⟨D, namesOf hs, rfl, SqL.of e, by omega, fun l ss hl pm so => ?_⟩
      exact q l ss _ upd_same (G.same.upd hl) pm so
end
end K49
namespace K49
open PySem L2 K02
noncomputable def spBent : Sp := fun vs H Q _ => ∃ (p : Addr) (x : V) (hs : List House) (ls : List Letter), vs = [.ref p, x] ∧ PackAt H p ∧ DaAt H x (.tup [housesDa hs, lettersDa ls]) ∧ GoodHouses hs ∧ GoodLetters hs ls ∧
  ∀ (y : V) (hs' : List House) (ls' : List Letter) (H' : Hp), DaAt H' y (.tup [housesDa hs', lettersDa ls']) → GoodHouses hs' → GoodLetters hs' ls' → hs'.map House.name = hs.map House.name → PackAt H' p → SameB p H H' → Q y H'
theorem pack_same {H H1 : Hp} {p : Addr} (h : PackAt H p) (s : Same H H1) : PackAt H1 p := let ⟨n, e, n0⟩ := h; ⟨n, s _ _ e, n0⟩
section
variable {P : Program} {w : World} {K : PySem.W.Frag} {mg : Str → Option Value} {base : Heap} {t8 : Tok}
theorem sc_bent : FnScope ["_law_pack_here", "_law_ledger_here", "_law_houses", "_law_letters_here", "_law_pick", "_law_more", "_law_at", "_law_name", "_law_low", "_law_high", "_law_drift", "_law_runs", "_law_k", "_law_one", "_law_other", "_law_least", "_law_most", "_law_moved", "_law_house_here"] ["_law_pack_here", "_law_ledger_here"] (defScope sBent) := ⟨rfl, rfl, rfl, by decide +kernel, rfl, by decide +kernel, by decide +kernel⟩
theorem ok_bent {f f_take : Addr} {fd fd_take : FuncData} (F : Fun K "_law_bent" "_law_bent" sBent f fd) (T : Txt mg t8)
    (G_take : FnOk P w K mg base CX0 1 f_take fd_take ["_law_pack_here", "_law_size"] spTake) (m_take : mg "_law_take" = some (.ref f_take)) (k_take : PySem.W.keepIn K (.ref f_take) = true) (b_take : Binds K fd_take ["_law_pack_here", "_law_size"] []) : FnOk P w K mg base CX0 2 f fd ["_law_pack_here", "_law_ledger_here"] spBent := by
  refine F.ok sc_bent (fun vs H Q E h => ?_) (fun cdv A outer s H vs Q E hr h => ?_)
  · obtain ⟨p, x, hs, ls, rfl, _⟩ := h
    rfl
  · obtain ⟨p, x, hs, ls, rfl, hp, hx, gh, gl, q⟩ := h
    have sl0 : sizeLine = 16777216 := sizeLine_eq
    have lh6 := gh.hi
    have lh1 := gh.lo
    have l24 := gl.few
    obtain ⟨a, us, rfl, ea, _, ru⟩ := hx.tupE
    obtain ⟨vh, vl, rfl, hH0, hL0⟩ := ru.two
    have hH : DaAt H vh (.tup (hs.map houseDa)) := hH0
    have hL : DaAt H vl (.tup (ls.map letterDa)) := hL0
    refine ⟨_, (SSs.h (qss_cons (qs_asg (qV 1) (qg_tup rfl (qgs_cons (qg_name (i := 2) sc_bent.nd rfl (Or.inl rfl)) (qgs_cons (qg_name (i := 3) sc_bent.nd rfl (Or.inl rfl)) qgs_nil)))) (qss_cons (qs_set (i := 4) sc_bent.nd rfl (Or.inl rfl) (qe_call G_take hr rfl m_take k_take b_take .nil pass0 (qa_cons (qV 0) (qa_cons qe_int qa_nil)))) (qss_cons (qs_set (i := 5) sc_bent.nd rfl (Or.inr rfl) (qe_ix ⟨iIx⟩ (qe_lst (qa_cons qe_int (qa_cons (qe_un ⟨uNeg⟩ qe_int) (qa_cons qe_int (qa_cons (qe_un ⟨uNeg⟩ qe_int) (qa_cons qe_int (qa_cons (qe_un ⟨uNeg⟩ qe_int) (qa_cons qe_int (qa_cons (qe_un ⟨uNeg⟩ qe_int) qa_nil))))))))) (qe_call G_take hr rfl m_take k_take b_take .nil pass0 (qa_cons (qV 0) (qa_cons qe_int qa_nil))) (fun _ _ => rfl))) (qss_cons (qs_set (i := 6) sc_bent.nd rfl (Or.inl rfl) (qe_call G_take hr rfl m_take k_take b_take .nil pass0 (qa_cons (qV 0) (qa_cons (qe_callB ⟨call_len_seq⟩ rfl T.len PySem.boot_len (qa_cons (qV 2) qa_nil)) qa_nil)))) (qss_cons (qs_asg (qe_ix ⟨iIxT⟩ (qV 2) (qV 6) (fun _ _ => rfl)) (qg_tup rfl (qgs_cons (qg_name (i := 7) sc_bent.nd rfl (Or.inl rfl)) (qgs_cons (qg_name (i := 8) sc_bent.nd rfl (Or.inl rfl)) (qgs_cons (qg_name (i := 9) sc_bent.nd rfl (Or.inl rfl)) (qgs_cons (qg_name (i := 10) sc_bent.nd rfl (Or.inl rfl)) (qgs_cons (qg_name (i := 11) sc_bent.nd rfl (Or.inl rfl)) qgs_nil))))))) (qss_cons (qs_if (qtAnd (qtC ⟨oGt⟩ (qV 4) qe_int (nomark _)) (qw_and1 (qtC ⟨(oNeT hr.units0)⟩ (qV 3) (qe_tup qa_nil) (nomark _)))) (qss_cons (qs_set (i := 12) sc_bent.nd rfl (Or.inl rfl) (qe_call G_take hr rfl m_take k_take b_take .nil pass0 (qa_cons (qV 0) (qa_cons (qe_callB ⟨call_len_seq⟩ rfl T.len PySem.boot_len (qa_cons (qV 3) qa_nil)) qa_nil)))) (qss_cons (qs_asg (qe_ix ⟨iIxT⟩ (qV 3) (qV 12) (fun _ _ => rfl)) (qg_tup rfl (qgs_cons (qg_name (i := 13) sc_bent.nd rfl (Or.inl rfl)) (qgs_cons (qg_name (i := 14) sc_bent.nd rfl (Or.inl rfl)) (qgs_cons (qg_name (i := 15) sc_bent.nd rfl (Or.inl rfl)) (qgs_cons (qg_name (i := 16) sc_bent.nd rfl (Or.inl rfl)) qgs_nil)))))) (qss_cons (qs_set (i := 15) sc_bent.nd rfl (Or.inl rfl) (qe_callB ⟨(call_max2 rfl)⟩ rfl T.max PyProof.Rows.boot_max (qa_cons qe_int (qa_cons (qe_op ⟨oAdd⟩ (qV 15) (qV 5)) qa_nil)))) (qss_cons (qs_if (qt_cmp (qc_notN (qV 16))) (qss_one (qs_set (i := 16) sc_bent.nd rfl (Or.inl rfl) (qe_callB ⟨(call_max2 rfl)⟩ rfl T.max PyProof.Rows.boot_max (qa_cons (qV 15) (qa_cons (qe_op ⟨oSub⟩ (qV 16) (qe_op ⟨oMul⟩ (qe_callB ⟨call_abs⟩ rfl T.abs PyProof.Rows.boot_abs (qa_cons (qV 5) qa_nil)) (qe_op ⟨oSub⟩ (qV 4) qe_int))) qa_nil))))) qss_nil) (qss_one (qs_ret (qe_tup (qa_cons (qV 2) (qa_cons (qe_op ⟨oCatA⟩ (qe_op ⟨oCatA⟩ (qe_slice ⟨iSlA⟩ (qV 3) qo_none (qoI (qV 12))) (qe_tup (qa_cons (qe_tup (qa_cons (qV 13) (qa_cons (qV 14) (qa_cons (qV 15) (qa_cons (qV 16) qa_nil))))) qa_nil))) (qe_slice ⟨iSlA⟩ (qV 3) (qoI (qe_op ⟨oAdd⟩ (qV 12) qe_int)) qo_none)) qa_nil))))))))) qss_nil) (qss_cons (qs_if (qtC ⟨oEq⟩ (qV 4) qe_int (nomark _)) (qss_one (qs_set (i := 8) sc_bent.nd rfl (Or.inl rfl) (qe_callB ⟨(call_min2 rfl)⟩ rfl T.min PyProof.Rows.boot_min (qa_cons (qV 9) (qa_cons (qe_op ⟨oAdd⟩ (qV 8) (qV 5)) qa_nil))))) qss_nil) (qss_cons (qs_if (qtC ⟨oEq⟩ (qV 4) qe_int (nomark _)) (qss_one (qs_set (i := 9) sc_bent.nd rfl (Or.inl rfl) (qe_callB ⟨(call_max2 rfl)⟩ rfl T.max PyProof.Rows.boot_max (qa_cons (qV 8) (qa_cons (qe_op ⟨oAdd⟩ (qV 9) (qV 5)) qa_nil))))) qss_nil) (qss_cons (qs_if (qtC ⟨oEq⟩ (qV 4) qe_int (nomark _)) (qss_one (qs_set (i := 10) sc_bent.nd rfl (Or.inl rfl) (qe_callB ⟨(call_max2 rfl)⟩ rfl T.max PyProof.Rows.boot_max (qa_cons qe_int (qa_cons (qe_op ⟨oAdd⟩ (qV 10) (qV 5)) qa_nil))))) qss_nil) (qss_cons (qs_if (qtAnd (qtC ⟨oGt⟩ (qV 4) qe_int (nomark _)) (qw_and1 (qtC ⟨(oNeT hr.units0)⟩ (qV 11) (qe_tup qa_nil) (nomark _)))) (qss_cons (qs_set (i := 12) sc_bent.nd rfl (Or.inl rfl) (qe_call G_take hr rfl m_take k_take b_take .nil pass0 (qa_cons (qV 0) (qa_cons (qe_callB ⟨call_len_seq⟩ rfl T.len PySem.boot_len (qa_cons (qV 11) qa_nil)) qa_nil)))) (qss_cons (qs_set (i := 17) sc_bent.nd rfl (Or.inl rfl) (qe_callTy ⟨call_tuple_of⟩ rfl T.tuple PyProof.Rows.boot_tuple (qa_cons (qe_comp (scX := defScope sBent) (own := ["_law_row", "_law_reading"]) (cap := ["_law_more"]) (ix := [5]) rfl rfl ⟨rfl, by decide +kernel, by decide +kernel, by decide +kernel, rfl, by decide +kernel⟩ (qi_tup (qe_ix ⟨iIxT⟩ (qV 11) (qV 12) (fun _ _ => rfl))) (fun b => (qg_tup rfl (qgs_cons (qg_name (i := 0) (show (["_law_row", "_law_reading", "_law_more"] : List Str).Nodup by decide +kernel) rfl (Or.inl rfl)) (qgs_cons (qg_name (i := 1) (show (["_law_row", "_law_reading", "_law_more"] : List Str).Nodup by decide +kernel) rfl (Or.inl rfl)) qgs_nil)))) (fun b => qif_nil) (fun b => (qe_tup (qa_cons (qV 0) (qa_cons (qe_op ⟨oAdd⟩ (qV 1) (qV 2)) qa_nil))))) qa_nil))) (qss_one (qs_set (i := 11) sc_bent.nd rfl (Or.inl rfl) (qe_op ⟨oCatA⟩ (qe_op ⟨oCatA⟩ (qe_slice ⟨iSlA⟩ (qV 11) qo_none (qoI (qV 12))) (qe_tup (qa_cons (qV 17) qa_nil))) (qe_slice ⟨iSlA⟩ (qV 11) (qoI (qe_op ⟨oAdd⟩ (qV 12) qe_int)) qo_none)))))) qss_nil) (qss_cons (qs_set (i := 18) sc_bent.nd rfl (Or.inl rfl) (qe_tup (qa_cons (qV 7) (qa_cons (qV 8) (qa_cons (qV 9) (qa_cons (qV 10) (qa_cons (qV 11) qa_nil))))))) (qss_one (qs_ret (qe_tup (qa_cons (qe_op ⟨oCatA⟩ (qe_op ⟨oCatA⟩ (qe_slice ⟨iSlA⟩ (qV 2) qo_none (qoI (qV 6))) (qe_tup (qa_cons (qV 18) qa_nil))) (qe_slice ⟨iSlA⟩ (qV 2) (qoI (qe_op ⟨oAdd⟩ (qV 6) qe_int)) qo_none)) (qa_cons (qV 3) qa_nil))))))))))))))))), ?_⟩
    refine asg_h fun Uz hUz => ?_
    refine ⟨a, _, rfl, SqT.of ea, rfl, _, _, rfl, _, _, rfl, rfl, ?_⟩
    subst hUz
    show tSeq (tAsg _ _) _ _ [some (.ref p), some (.ref a), some vh, some vl, none, none, none, none, none, none, none, none, none, none, none, none, none, none, none] H
    refine asg_h fun Uz hUz => ?_
    refine ⟨p, 6, rfl, hp, by decide, by decide, fun pk H1 pk0 pk1 hp1 sb1 => ?_⟩
    have k1 := kp_take hp hp1 sb1
    subst hUz
    show tSeq (tAsg _ _) _ _ [some (.ref p), some (.ref a), some vh, some vl, some (.int pk), none, none, none, none, none, none, none, none, none, none, none, none, none, none] H1
    refine asg_h fun Uz hUz => ?_
    refine ⟨by show 8 ≤ sizeLine; omega, fun l8 fl8 => ?_⟩
    have hp1' : PackAt (upd H1 l8 (.lst ([1, -1, 7, -7, 60, -60, 500, -500].map V.int))) p := hp1.new fl8
    refine ⟨p, 8, rfl, hp1', by decide, by decide, fun mi H2 mi0 mi1 hp2 sb2' => ?_⟩
    have el8 : H2 l8 = some (.lst ([1, -1, 7, -7, 60, -60, 500, -500].map V.int)) := sb2' l8 _ (fun z => by obtain ⟨n, e, _⟩ := hp1; rw [← z, fl8] at e; cases e) upd_same
    have sb2 : SameB p H1 H2 := fun c o n z => sb2' c o n (((Same.refl H1).upd fl8) c o z)
    obtain ⟨mi, rfl⟩ := Int.eq_ofNat_of_zero_le mi0
    obtain ⟨mo, emo, bmo⟩ : ∃ mo : Int, ([1, -1, 7, -7, 60, -60, 500, -500] : List Int)[mi]? = some mo ∧ -500 ≤ mo ∧ mo ≤ 500 := by
      have hi : mi < 8 := by omega
      match mi, hi with
      | 0, _ => exact ⟨_, rfl, by decide, by decide⟩
      | 1, _ => exact ⟨_, rfl, by decide, by decide⟩
      | 2, _ => exact ⟨_, rfl, by decide, by decide⟩
      | 3, _ => exact ⟨_, rfl, by decide, by decide⟩
      | 4, _ => exact ⟨_, rfl, by decide, by decide⟩
      | 5, _ => exact ⟨_, rfl, by decide, by decide⟩
      | 6, _ => exact ⟨_, rfl, by decide, by decide⟩
      | 7, _ => exact ⟨_, rfl, by decide, by decide⟩
    refine ixAt el8 (v := .int mo) (atI_nat (by rw [List.getElem?_map, emo]; rfl)) ?_
    have k2 := k1.trans (kp_take hp1 hp2 sb2)
    have SB2 : SameB p H H2 := sb1.trans sb2
    subst hUz
    show tSeq (tAsg _ _) _ _ [some (.ref p), some (.ref a), some vh, some vl, some (.int pk), some (.int mo), none, none, none, none, none, none, none, none, none, none, none, none, none] H2
    refine hideP fun Rz0 hRz0 => ?_
    obtain ⟨ch, wh, ez40, ech, _, rh⟩ := hH.tupE
    subst hRz0
    subst ez40
    have lwh := rh.len
    rw [List.length_map] at lwh
    refine asg_h fun Uz hUz => ?_
    refine ⟨ch, wh, rfl, .inr (SqT.of (k2.tup _ _ ech)), ?_⟩
    refine ⟨p, (wh.length : Int), rfl, hp2, by omega, by omega, fun kk H3 kk0 kk1 hp3 sb3 => ?_⟩
    obtain ⟨k, rfl⟩ := Int.eq_ofNat_of_zero_le kk0
    have k3 := k2.trans (kp_take hp2 hp3 sb3)
    have SB3 : SameB p H H3 := SB2.trans sb3
    have lk : k < hs.length := by omega
    obtain ⟨h, hk⟩ : ∃ h, hs[k]? = some h := ⟨_, List.getElem?_eq_getElem lk⟩
    obtain ⟨vk, hvk⟩ : ∃ v, wh[k]? = some v := ⟨_, List.getElem?_eq_getElem (by omega)⟩
    obtain ⟨dk, hdk, avk⟩ := rh.get hvk
    rw [List.getElem?_map, hk] at hdk
    obtain rfl : houseDa h = dk := Option.some.inj hdk
    have hm := List.mem_of_getElem? hk
    have gd := gh.all h hm
    have lr : h.runs.length ≤ 24 := runs_few gh hm
    subst hUz
    show tSeq (tAsg _ _) _ _ [some (.ref p), some (.ref a), some (.ref ch), some vl, some (.int pk), some (.int mo), some (.int (k : Int)), none, none, none, none, none, none, none, none, none, none, none, none] H3
    refine asg_h fun Uz hUz => ?_
    refine ixTup (SqT.of (k3.tup _ _ ech)) (v := vk) (atI_nat hvk) ?_
    refine hideP fun Rz0 hRz0 => ?_
    obtain ⟨ck, uk, ez41, eck, _, rk⟩ := avk.tupE
    subst hRz0
    subst ez41
    refine hideP fun Rz0 hRz0 => ?_
    obtain ⟨w1, w2, w3, w4, w5, ez42, hN, q2, q3, q4, hR0⟩ := rk.five
    subst hRz0
    subst ez42
    cases q2
    cases q3
    cases q4
    have hR : DaAt H w5 (.tup (h.runs.map runDa)) := hR0
    refine ⟨ck, _, rfl, SqT.of (k3.tup _ _ eck), rfl, _, _, rfl, _, _, rfl, _, _, rfl, _, _, rfl, _, _, rfl, rfl, ?_⟩
    subst hUz
    show tSeq (tIfS _ _ _) _ _ [some (.ref p), some (.ref a), some (.ref ch), some vl, some (.int pk), some (.int mo), some (.int (k : Int)), some w1, some (.int h.low), some (.int h.high), some (.int h.drift), some w5, none, none, none, none, none, none, none] H3
    refine if_join (fun σ' H' => σ' = [some (.ref p), some (.ref a), some (.ref ch), some vl, some (.int pk), some (.int mo), some (.int (k : Int)), some w1, some (.int h.low), some (.int h.high), some (.int h.drift), some w5, none, none, none, none, none, none, none] ∧ PackAt H' p ∧ Kp H H' ∧ SameB p H H') (fun U hU => ?_) (fun σ' H4 hz21 => ?_)
    · refine ite2 (fun c1 => ?_) (fun c1 => ?_)
      · refine ⟨Nat.zero_le _, fun e0 he0 => ?_⟩
        refine hideP fun Rz0 hRz0 => ?_
        obtain ⟨cl, wl, ez43, ecl, _, rl⟩ := hL.tupE
        subst hRz0
        subst ez43
        have lwl := rl.len
        rw [List.length_map] at lwl
        have s4 : Same H3 (upd H3 e0 (.tup [])) := (Same.refl _).upd he0
        have hp4 : PackAt (upd H3 e0 (.tup [])) p := hp3.new he0
        refine ⟨⟨cl, e0, wl, rfl, rfl, s4 _ _ (k3.tup _ _ ecl), upd_same, ?_⟩⟩
        generalize upd H3 e0 (.tup []) = H4 at s4 hp4
        have k4 : Kp H H4 := k3.trans (Kp.of s4)
        have SB4 : SameB p H H4 := SB3.trans (SameB.of s4)
        refine ite2 (fun c2 => ?_) (fun c2 => ?_)
        · have nl : 0 < wl.length := by
            cases wl with
            | nil => exact absurd c2 (by decide)
            | cons _ _ => exact Nat.succ_pos _
          refine asg_s ⟨cl, wl, rfl, .inr (SqT.of (k4.tup _ _ ecl)), ?_⟩
          refine ⟨p, (wl.length : Int), rfl, hp4, by omega, by omega, fun jj H5 jj0 jj1 hp5 sb5 => ?_⟩
          obtain ⟨j, rfl⟩ := Int.eq_ofNat_of_zero_le jj0
          have k5 := k4.trans (kp_take hp4 hp5 sb5)
          have SB5 : SameB p H H5 := SB4.trans sb5
          have lj : j < ls.length := by omega
          obtain ⟨l, hj⟩ : ∃ l, ls[j]? = some l := ⟨_, List.getElem?_eq_getElem lj⟩
          obtain ⟨vj, hvj⟩ : ∃ v, wl[j]? = some v := ⟨_, List.getElem?_eq_getElem (by omega)⟩
          obtain ⟨dj, hdj, avj⟩ := rl.get hvj
          rw [List.getElem?_map, hj] at hdj
          obtain rfl : letterDa l = dj := Option.some.inj hdj
          have gj := gl.all l (List.mem_of_getElem? hj)
          refine asg_s (ixTup (SqT.of (k5.tup _ _ ecl)) (v := vj) (atI_nat hvj) ?_)
          refine hideP fun Rz0 hRz0 => ?_
          obtain ⟨cj, uj, ez44, ecj, _, rj⟩ := avj.tupE
          subst hRz0
          subst ez44
          refine hideP fun Rz0 hRz0 => ?_
          obtain ⟨y1, y2, y3, y4, ez45, h1, h2, q3, h4⟩ := rj.four
          subst hRz0
          subst ez45
          cases q3
          refine ⟨cj, _, rfl, SqT.of (k5.tup _ _ ecj), rfl, _, _, rfl, _, _, rfl, _, _, rfl, _, _, rfl, rfl, ?_⟩
          refine asg_h fun Uz hUz => ?_
          refine ⟨1, l.2.1 + mo, rfl, ?_⟩
          obtain ⟨le, ele, ge⟩ : ∃ le : Int, le = (if l.2.1 + mo > 1 then l.2.1 + mo else 1) ∧ 1 ≤ le := ⟨_, rfl, by split <;> omega⟩
          rw [← ele]
          have fin : ∀ (vm : V) (mm : Option Int) (H6 : Hp), Same H5 H6 → DaAt H6 vm (mostDa mm) → (∀ m, mm = some m → le ≤ m) → tRet (tTup (tCons (tV 2) (tCons (tOp CatA (tOp CatA (tSl SlA (tV 3) tNoPart (tPartF (tV 12))) (tTup (tCons (tTup (tCons (tV 13) (tCons (tV 14) (tCons (tV 15) (tCons (tV 16) tNil))))) tNil))) (tSl SlA (tV 3) (tPartF (tOp (fI fun i j => .int (i + j)) (tV 12) (tC (.int 1)))) tNoPart)) tNil))) ⟨fun _ _ => False, Q, fun _ _ => False, fun _ _ => False⟩ [some (.ref p), some (.ref a), some (.ref ch), some (.ref cl), some (.int pk), some (.int mo), some (.int (k : Int)), some w1, some (.int h.low), some (.int h.high), some (.int h.drift), some w5, some (.int (j : Int)), some y1, some y2, some (.int le), some vm, none, none] H6 := fun vm mm H6 s6 hmo hge => by
            refine TD.use (σ := [some (.ref p), some (.ref a), some (.ref ch), some (.ref cl), some (.int pk), some (.int mo), some (.int (k : Int)), some w1, some (.int h.low), some (.int h.high), some (.int h.drift), some w5, some (.int (j : Int)), some y1, some y2, some (.int le), some vm, none, none]) (te := tTup _) (td_tup (tds_cons (td_v2 (hH.kp (k5.trans (Kp.of s6)))) (tds_cons (td_cat (td_cat (td_to (k := j) (td_v3 (hL.kp (k5.trans (Kp.of s6)))) (tpo_i (td_v12 (.int _)))) (td_tup (tds_cons (td_tup (tds_cons (td_v13 (h1.kp (k5.trans (Kp.of s6)))) (tds_cons (td_v14 (h2.kp (k5.trans (Kp.of s6)))) (tds_cons (td_v15 (.int _)) (tds_cons (td_v16 hmo) tds_nil)))) (by exact Nat.le_of_ble_eq_true rfl)) tds_nil) (by exact Nat.le_of_ble_eq_true rfl)) (by simp only [List.length_append, List.length_map, List.length_take, List.length_drop, List.length_cons, List.length_nil]; omega)) (td_from (k := (j + 1)) (td_v3 (hL.kp (k5.trans (Kp.of s6)))) (tpo_i (td_add1 (td_v12 (.int _))))) (by simp only [List.length_append, List.length_map, List.length_take, List.length_drop, List.length_cons, List.length_nil]; omega)) tds_nil)) (by exact Nat.le_of_ble_eq_true rfl)) (Same.refl _) fun v H7 s7 hv => ?_
            refine q v hs (putH ls j ((l.1.1, l.1.2), le, mm)) H7 ?_ gh (letter_put gl hj rfl ge hge) rfl (pack_same hp5 (s6.trans s7)) (SB5.trans (SameB.of (s6.trans s7)))
            have e : lettersDa (putH ls j ((l.1.1, l.1.2), le, mm)) = .tup ((ls.map letterDa).take j ++ [.tup [.str l.1.1, .str l.1.2, .int le, mostDa mm]] ++ (ls.map letterDa).drop (j + 1)) := by
              unfold lettersDa putH
              rw [List.map_append, List.map_append, List.map_take, List.map_drop]
              rfl
            rw [e]
            exact hv
          subst hUz
          show tSeq (tIfS _ _ _) _ _ [some (.ref p), some (.ref a), some (.ref ch), some (.ref cl), some (.int pk), some (.int mo), some (.int (k : Int)), some w1, some (.int h.low), some (.int h.high), some (.int h.drift), some w5, some (.int (j : Int)), some y1, some y2, some (.int le), some y4, none, none] H5
          refine if_join (fun σ' H' => ∃ (vm : V) (mm : Option Int), σ' = [some (.ref p), some (.ref a), some (.ref ch), some (.ref cl), some (.int pk), some (.int mo), some (.int (k : Int)), some w1, some (.int h.low), some (.int h.high), some (.int h.drift), some w5, some (.int (j : Int)), some y1, some y2, some (.int le), some vm, none, none] ∧ H' = H5 ∧ DaAt H5 vm (mostDa mm) ∧ ∀ m, mm = some m → le ≤ m) (fun U hU => ?_) (fun σ' H' hz22 => ?_)
          · have ev := most_off h4
            subst ev
            cases em : l.2.2 with
            | none =>
              refine ⟨_, rfl, ?_⟩
              refine hU _ _ ⟨.non, none, rfl, rfl, .non, fun m z => by cases z⟩
            | some mv =>
              refine ⟨_, rfl, ?_⟩
              refine ⟨mo, rfl, ?_⟩
              refine ⟨.inl ⟨by split <;> omega, by split <;> omega⟩, ?_⟩
              refine ⟨_, _, rfl, ?_⟩
              refine hU _ _ ⟨.int _, some _, rfl, rfl, .int _, fun m z => ?_⟩
              cases z
              split <;> omega
          · refine hideP fun Rz0 hRz0 => ?_
            obtain ⟨vm, mm, eσ, eH, hvm, hge⟩ := hz22
            subst hRz0
            subst eσ eH
            exact fin vm mm _ (Same.refl _) hvm hge
        · exact hU _ _ ⟨rfl, hp4, k4, SB4⟩
      · exact hU _ _ ⟨rfl, hp3, k3, SB3⟩
    refine hideP fun Rz0 hRz0 => ?_
    obtain ⟨eσ, hp4, k4, SB4⟩ := hz21
    subst hRz0
    subst eσ
    show tSeq (tIfS _ _ _) _ _ [some (.ref p), some (.ref a), some (.ref ch), some vl, some (.int pk), some (.int mo), some (.int (k : Int)), some w1, some (.int h.low), some (.int h.high), some (.int h.drift), some w5, none, none, none, none, none, none, none] H4
    refine if_join (fun σ' H' => ∃ lo : Int, σ' = [some (.ref p), some (.ref a), some (.ref ch), some vl, some (.int pk), some (.int mo), some (.int (k : Int)), some w1, some (.int lo), some (.int h.high), some (.int h.drift), some w5, none, none, none, none, none, none, none] ∧ lo ≤ h.high ∧ H' = H4) (fun U hU => ?_) (fun σ' H' hz23 => ?_)
    · refine ite2 (fun c => ?_) (fun c => ?_)
      · refine ⟨h.high, h.low + mo, rfl, ?_⟩
        exact hU _ _ ⟨_, rfl, by split <;> omega, rfl⟩
      · exact hU _ _ ⟨_, rfl, gd.wide, rfl⟩
    refine hideP fun Rz0 hRz0 => ?_
    obtain ⟨lo, eσ, hlo, eH⟩ := hz23
    subst hRz0
    subst eσ eH
    refine if_join (fun σ' H'' => ∃ hi : Int, σ' = [some (.ref p), some (.ref a), some (.ref ch), some vl, some (.int pk), some (.int mo), some (.int (k : Int)), some w1, some (.int lo), some (.int hi), some (.int h.drift), some w5, none, none, none, none, none, none, none] ∧ lo ≤ hi ∧ H'' = H') (fun U hU => ?_) (fun σ' H'' hz24 => ?_)
    · refine ite2 (fun c => ?_) (fun c => ?_)
      · refine ⟨lo, h.high + mo, rfl, ?_⟩
        exact hU _ _ ⟨_, rfl, by split <;> omega, rfl⟩
      · exact hU _ _ ⟨_, rfl, hlo, rfl⟩
    refine hideP fun Rz0 hRz0 => ?_
    obtain ⟨hi, eσ, hhi, eH⟩ := hz24
    subst hRz0
    subst eσ eH
    have gdr := gd.drift
    refine if_join (fun σ' H3 => ∃ dr : Int, σ' = [some (.ref p), some (.ref a), some (.ref ch), some vl, some (.int pk), some (.int mo), some (.int (k : Int)), some w1, some (.int lo), some (.int hi), some (.int dr), some w5, none, none, none, none, none, none, none] ∧ 0 ≤ dr ∧ H3 = H'') (fun U hU => ?_) (fun σ' H5 hz25 => ?_)
    · refine ite2 (fun c => ?_) (fun c => ?_)
      · refine ⟨0, h.drift + mo, rfl, ?_⟩
        exact hU _ _ ⟨_, rfl, by split <;> omega, rfl⟩
      · exact hU _ _ ⟨_, rfl, gdr, rfl⟩
    refine hideP fun Rz0 hRz0 => ?_
    obtain ⟨dr, eσ, hdr, eH⟩ := hz25
    subst hRz0
    subst eσ eH
    refine if_join (fun σ' H' => ∃ (vr : V) (rs : List (List Row)) (o12 o17 : Option V), σ' = [some (.ref p), some (.ref a), some (.ref ch), some vl, some (.int pk), some (.int mo), some (.int (k : Int)), some w1, some (.int lo), some (.int hi), some (.int dr), some vr, o12, none, none, none, none, o17, none] ∧ DaAt H' vr (.tup (rs.map runDa)) ∧ (∀ r ∈ rs, GoodRun r) ∧ rs.flatten.map Prod.fst = h.runs.flatten.map Prod.fst ∧ rs.length = h.runs.length ∧ Kp H H' ∧ SameB p H H' ∧ PackAt H' p) (fun U hU => ?_) (fun σ' H6 hz26 => ?_)
    · refine ite2 (fun c1 => ?_) (fun c1 => ?_)
      · refine ⟨Nat.zero_le _, fun e0 he0 => ?_⟩
        refine hideP fun Rz0 hRz0 => ?_
        obtain ⟨cr, wr, ez46, ecr, _, rr⟩ := hR.tupE
        subst hRz0
        subst ez46
        have lwr := rr.len
        rw [List.length_map] at lwr
        have s6 : Same H5 (upd H5 e0 (.tup [])) := (Same.refl _).upd he0
        have hp6 : PackAt (upd H5 e0 (.tup [])) p := hp4.new he0
        refine ⟨⟨cr, e0, wr, rfl, rfl, s6 _ _ (k4.tup _ _ ecr), upd_same, ?_⟩⟩
        generalize upd H5 e0 (.tup []) = H6 at s6 hp6
        have k6 : Kp H H6 := k4.trans (Kp.of s6)
        have SB6 : SameB p H H6 := SB4.trans (SameB.of s6)
        refine ite2 (fun c2 => ?_) (fun c2 => ?_)
        · have nl : 0 < wr.length := by
            cases wr with
            | nil => exact absurd c2 (by decide)
            | cons _ _ => exact Nat.succ_pos _
          refine asg_s ⟨cr, wr, rfl, .inr (SqT.of (k6.tup _ _ ecr)), ?_⟩
          refine ⟨p, (wr.length : Int), rfl, hp6, by omega, by omega, fun jj H7 jj0 jj1 hp7 sb7 => ?_⟩
          obtain ⟨j, rfl⟩ := Int.eq_ofNat_of_zero_le jj0
          have k7 := k6.trans (kp_take hp6 hp7 sb7)
          have SB7 : SameB p H H7 := SB6.trans sb7
          have lj : j < h.runs.length := by omega
          obtain ⟨r, hj⟩ : ∃ r, h.runs[j]? = some r := ⟨_, List.getElem?_eq_getElem lj⟩
          obtain ⟨vj, hvj⟩ : ∃ v, wr[j]? = some v := ⟨_, List.getElem?_eq_getElem (by omega)⟩
          obtain ⟨dj, hdj, avj⟩ := rr.get hvj
          rw [List.getElem?_map, hj] at hdj
          obtain rfl : runDa r = dj := Option.some.inj hdj
          have gr := gd.runs r (List.mem_of_getElem? hj)
          refine hideP fun Rz0 hRz0 => ?_
          obtain ⟨cj, uj, ez47, ecj, lcj, rj⟩ := avj.tupE
          subst hRz0
          subst ez47
          have lr25 := gr.few
          refine asg_s (ixTup (SqT.of (k7.tup _ _ ecr)) (v := .ref cj) (atI_nat hvj) ?_)
          refine ⟨cj, rfl, ⟨_, SqT.of (k7.tup _ _ ecj)⟩, fun D hD => comp_tupD (f := fun d => rowDa ((rowOf d).1, (rowOf d).2 + mo)) hD (k7.tup _ _ ecj) (rj.kp k7) (by rw [List.length_map]; omega) (fun x d H' hd hx s b R hR' => ?_) (fun vs8 H8 s8 e8 hv8 => ?_)⟩
          · obtain ⟨rw, hrw, rfl⟩ := List.mem_map.mp hd
            refine hideP fun Rz0 hRz0 => ?_
            obtain ⟨ax, ux, ez48, eax, _, rx⟩ := hx.tupE
            subst hRz0
            subst ez48
            refine hideP fun Rz0 hRz0 => ?_
            obtain ⟨x1, x2, ez49, z1, z2⟩ := rx.two
            subst hRz0
            subst ez49
            refine ⟨ax, _, rfl, SqT.of eax, rfl, _, _, rfl, _, _, rfl, rfl, ?_⟩
            exact TD.use (σ := [some x1, some x2, some (.int mo)]) (d := .tup [.str rw.1, .int (rw.2 + mo)]) (td_tup (tds_cons (td_v0 z1) (tds_cons (td_add (td_v1 z2) (td_v2 (.int _))) tds_nil)) (by exact Nat.le_of_ble_eq_true rfl)) (Same.refl _) hR'
          · refine ⟨D, vs8, rfl, .inl ⟨SqL.of e8, fun t9 ft9 => ?_⟩⟩
            have s9 : Same H8 (upd H8 t9 (.tup vs8)) := (Same.refl _).upd ft9
            have hM : DaAt (upd H8 t9 (.tup vs8)) (.ref t9) (runDa (r.map fun r => (r.1, r.2 + mo))) := by
              refine .tup upd_same (by rw [hv8.len, List.length_map, List.length_map]; omega) ?_
              rw [List.map_map] at hv8 ⊢
              exact hv8.same s9
            generalize upd H8 t9 (.tup vs8) = H9 at s9 hM
            have s79 : Same H7 H9 := s8.trans s9
            have k9 : Kp H H9 := k7.trans (Kp.of s79)
            refine TD.use (σ := [some (.ref p), some (.ref a), some (.ref ch), some vl, some (.int pk), some (.int mo), some (.int (k : Int)), some w1, some (.int lo), some (.int hi), some (.int dr), some (.ref cr), some (.int (j : Int)), none, none, none, none, some (.ref t9), none]) (te := tOp CatA _ _) (td_cat (td_cat (td_to (k := j) (td_v11 (hR.kp k9)) (tpo_i (td_v12 (.int _)))) (td_tup (tds_cons (td_v17 hM) tds_nil) (by exact Nat.le_of_ble_eq_true rfl)) (by simp only [List.length_append, List.length_map, List.length_take, List.length_drop, List.length_cons, List.length_nil]; omega)) (td_from (k := (j + 1)) (td_v11 (hR.kp k9)) (tpo_i (td_add1 (td_v12 (.int _))))) (by simp only [List.length_append, List.length_map, List.length_take, List.length_drop, List.length_cons, List.length_nil]; omega)) (Same.refl _) fun v H10 s10 hv => ?_
            refine hU _ _ ⟨v, putH h.runs j (r.map fun r => (r.1, r.2 + mo)), _, _, rfl, ?_, fun z hz => ?_, ?_, putH_len hj, k9.trans (Kp.of s10), SB7.trans (SameB.of (s79.trans s10)), pack_same hp7 (s79.trans s10)⟩
            · have e : (putH h.runs j (r.map fun r => (r.1, r.2 + mo))).map runDa = (h.runs.map runDa).take j ++ [runDa (r.map fun r => (r.1, r.2 + mo))] ++ (h.runs.map runDa).drop (j + 1) := by
                unfold putH
                rw [List.map_append, List.map_append, List.map_take, List.map_drop]
                rfl
              rw [e]
              exact hv
            · rcases putH_mem hz with w | w
              · exact gd.runs z w
              · rw [w]; exact run_moved gr mo
            · exact runs_moved hj (by rw [List.map_map]; rfl)
        · exact hU _ _ ⟨_, h.runs, _, _, rfl, hR.kp k6, gd.runs, rfl, rfl, k6, SB6, hp6⟩
      · exact hU _ _ ⟨_, h.runs, _, _, rfl, hR.kp k4, gd.runs, rfl, rfl, k4, SB4, hp4⟩
    refine hideP fun Rz0 hRz0 => ?_
    obtain ⟨vr, rs, o12, o17, eσ, hvr, grs, ers, lrs, k6, SB6, hp6z⟩ := hz26
    subst hRz0
    subst eσ
    refine asg_s (TD.use (σ := [some (.ref p), some (.ref a), some (.ref ch), some vl, some (.int pk), some (.int mo), some (.int (k : Int)), some w1, some (.int lo), some (.int hi), some (.int dr), some vr, o12, none, none, none, none, o17, none]) (te := tTup _) (td_tup (tds_cons (td_v7 (hN.kp k6)) (tds_cons (td_v8 (.int _)) (tds_cons (td_v9 (.int _)) (tds_cons (td_v10 (.int _)) (tds_cons (td_v11 hvr) tds_nil))))) (by exact Nat.le_of_ble_eq_true rfl)) (Same.refl _) fun v H7 s7 hv => ?_)
    have k7 := k6.trans (Kp.of s7)
    refine TD.use (σ := [some (.ref p), some (.ref a), some (.ref ch), some vl, some (.int pk), some (.int mo), some (.int (k : Int)), some w1, some (.int lo), some (.int hi), some (.int dr), some vr, o12, none, none, none, none, o17, some v]) (te := tTup _) (td_tup (tds_cons (td_cat (td_cat (td_to (k := k) (td_v2 (hH.kp k7)) (tpo_i (td_v6 (.int _)))) (td_tup (tds_cons (td_v18 hv) tds_nil) (by exact Nat.le_of_ble_eq_true rfl)) (by simp only [List.length_append, List.length_map, List.length_take, List.length_drop, List.length_cons, List.length_nil]; omega)) (td_from (k := (k + 1)) (td_v2 (hH.kp k7)) (tpo_i (td_add1 (td_v6 (.int _))))) (by simp only [List.length_append, List.length_map, List.length_take, List.length_drop, List.length_cons, List.length_nil]; omega)) (tds_cons (td_v3 (hL.kp k7)) tds_nil)) (by exact Nat.le_of_ble_eq_true rfl)) (Same.refl _) fun y H8 s8 hy => ?_
    have gd' : GoodHouse ⟨h.name, lo, hi, dr, rs⟩ := ⟨gd.name, hhi, hdr, by show rs.length ≤ 25; omega, grs⟩
    have enm : namesH ⟨h.name, lo, hi, dr, rs⟩ = namesH h := ers
    obtain ⟨gp, en⟩ := good_put gh hk (h' := ⟨h.name, lo, hi, dr, rs⟩) rfl enm gd'
    refine q y (putH hs k ⟨h.name, lo, hi, dr, rs⟩) ls H8 ?_ gp (letters_put gl hk rfl enm) (putH_map hk rfl) (pack_same hp6z (s7.trans s8)) (SB6.trans (SameB.of (s7.trans s8)))
    have e : housesDa (putH hs k ⟨h.name, lo, hi, dr, rs⟩) = .tup ((hs.map houseDa).take k ++ [.tup [.str h.name, .int lo, .int hi, .int dr, .tup (rs.map runDa)]] ++ (hs.map houseDa).drop (k + 1)) := by
      unfold housesDa putH
      rw [List.map_append, List.map_append, List.map_take, List.map_drop]
      rfl
    rw [e]
    exact hy
end
end K49
namespace K49
open PySem L2 K02 PyProof.Rows
theorem _root_.L2.Fun.okX {P : Program} {w : World} {K : PySem.W.Frag} {mg : Str → Option Value} {base : Heap} {x qual : Str} {st : Stmt} {f : Addr} {fd : FuncData} {N ps : List Str} {k : Nat} {sp : Sp} (F : Fun K x qual st f fd) (S : FnScope N ps (defScope st)) (len : ∀ vs H Q E, sp vs H Q E → vs.length = ps.length)
    (hb : ∀ (cdv : Value) (A : Around) (outer : List Env) (s : Shared) (H : Hp) (vs : List V) (Q : VK) (E : XK), Room k (A.deeper (envOfC qual (defScope st) s.heap.objs.size f cdv)) → sp vs H Q E →
      ∃ t, PSs (cxOf (CX1 P w) P w K mg base N qual (defScope st) f cdv A outer s H E) (defBody st) t ∧ t { nx := fun _ H' => Q .non H', rt := Q } (start N vs) H) : FnOk P w K mg base (CX1 P w) (k + 1) f fd ps sp := by
  obtain ⟨_, _, _, _, _, _, cdv, _, _, rfl, lk, hcd⟩ := F.ex
  exact fn_of lk hcd S len fun A outer s H vs Q E hr hsp => hb cdv A outer s H vs Q E hr hsp
noncomputable def spHouseNames : Sp := fun vs H Q _ => ∃ (x : V) (hs : List House) (l : Da), vs = [x] ∧ DaAt H x (.tup [housesDa hs, l]) ∧ ∀ (a : Addr) (H' : Hp), H' a = some (.lst (hs.map fun h => V.str h.name)) → Same H H' → Q (.ref a) H'
noncomputable def NoHs (hs : List House) (d : Da) : Prop := ∀ z, d = .str z → isN (.str z) = true → ∀ h ∈ hs, h.name ≠ z
noncomputable def spHas : Sp := fun vs H Q _ => ∃ (x y : V) (hs : List House) (l d : Da), vs = [x, y] ∧ DaAt H x (.tup [housesDa hs, l]) ∧ DaAt H y d ∧ NoHs hs d ∧ ∀ H', Same H H' → Q (.bl false) H'
noncomputable def spMend (cH : Addr) : Sp := fun vs H _ E => ∃ (x y : V) (hs : List House) (l d : Da), vs = [x, y] ∧ DaAt H x (.tup [housesDa hs, l]) ∧ DaAt H y d ∧ NoHs hs d ∧ ∀ H', Same H H' → E (.ref cH) none H'
section
variable {P : Program} {w : World} {K : PySem.W.Frag} {mg : Str → Option Value} {base : Heap} {t8 : Tok}
theorem sc_housenames : FnScope ["ledger"] ["ledger"] (defScope sHouseNames) := ⟨rfl, rfl, rfl, by decide +kernel, rfl, by decide +kernel, by decide +kernel⟩
theorem ok_housenames {f : Addr} {fd : FuncData} (F : Fun K "house_names" "house_names" sHouseNames f fd) (T : Txt mg t8) : FnOk P w K mg base CX0 1 f fd ["ledger"] spHouseNames := by
  refine F.ok sc_housenames (fun vs H Q E h => ?_) (fun cdv A outer s H vs Q E hr h => ?_)
  · obtain ⟨x, hs, l, rfl, _⟩ := h
    rfl
  · obtain ⟨x, hs, l, rfl, hx, q⟩ := h
    refine ⟨_, (SSs.h (qss_one (qs_ret (qe_comp (scX := defScope sHouseNames) (own := ["house"]) (cap := []) (ix := []) rfl rfl ⟨rfl, by decide +kernel, by decide +kernel, by decide +kernel, rfl, by decide +kernel⟩ (qi_tup (qe_ix ⟨iIxT⟩ (qV 0) qe_int (fun _ _ => rfl))) (fun b => (qg_name (i := 0) (show (["house"] : List Str).Nodup by decide +kernel) rfl (Or.inl rfl))) (fun b => qif_nil) (fun b => (qe_ix ⟨iIxT⟩ (qV 0) qe_int (fun _ _ => rfl))))))), ?_⟩
    have sl0 : sizeLine = 16777216 := sizeLine_eq
    obtain ⟨a, vs, rfl, ha, la, ra⟩ := hx.tupE
    obtain ⟨v1, v2, rfl, r1, r2⟩ := ra.two
    obtain ⟨c, ws, rfl, hc, lc, rc⟩ := DaAt.tupE r1
    refine ixTup (SqT.of ha) (i := 0) (v := .ref c) (by rfl) ?_
    have ln := rc.len
    rw [List.length_map] at ln
    refine ⟨c, rfl, ⟨_, SqT.of hc⟩, fun D hD => comp_map (xs := ws) (ys := hs.map fun h => V.str h.name) hD (SqT.of hc) (by omega) (by rw [List.length_map]; omega) (fun i x H' hx s2 b R hR => ?_) (fun H' s2 e => q D H' e s2)⟩
    obtain ⟨d, hd, hxd⟩ := rc.get hx
    rw [List.getElem?_map] at hd
    obtain ⟨hh, eh, rfl⟩ := Option.map_eq_some_iff.mp hd
    obtain ⟨a1, ws1, rfl, h1, _, r1⟩ := (hxd.same s2).tupE
    obtain ⟨u, us, rfl, ru, _⟩ := DaAs.inv r1
    cases ru
    refine ixTup (SqT.of h1) (i := 0) (v := .str hh.name) (by show atI _ ((0 : Nat) : Int) = _; exact atI_nat rfl) ?_
    exact hR H' _ (by rw [List.getElem?_map, eh]; rfl) (Same.refl _)
theorem sc_hashouse : FnScope ["ledger", "thing"] ["ledger", "thing"] (defScope sHasHouse) := ⟨rfl, rfl, rfl, by decide +kernel, rfl, by decide +kernel, by decide +kernel⟩
theorem ok_hashouse {f f_name f_housenames : Addr} {fd fd_name fd_housenames : FuncData} (F : Fun K "has_house" "has_house" sHasHouse f fd) (T : Txt mg t8)
    (G_name : FnOk P w K mg base CX0 1 f_name fd_name ["thing"] (spName K)) (m_name : mg "is_name" = some (.ref f_name)) (k_name : PySem.W.keepIn K (.ref f_name) = true) (b_name : Binds K fd_name ["thing"] [])
    (G_housenames : FnOk P w K mg base CX0 1 f_housenames fd_housenames ["ledger"] spHouseNames) (m_housenames : mg "house_names" = some (.ref f_housenames)) (k_housenames : PySem.W.keepIn K (.ref f_housenames) = true) (b_housenames : Binds K fd_housenames ["ledger"] []) : FnOk P w K mg base CX0 2 f fd ["ledger", "thing"] spHas := by
  refine F.ok sc_hashouse (fun vs H Q E h => ?_) (fun cdv A outer s H vs Q E hr h => ?_)
  · obtain ⟨x, y, hs, l, d, rfl, _⟩ := h
    rfl
  · obtain ⟨x, y, hs, l, d, rfl, hx, hy, hn, q⟩ := h
    refine ⟨_, (pss_one (ps_ret (peAnd (pe_call G_name hr rfl m_name k_name b_name .nil pass0 (pa_cons (pV 1) pa_nil)) (pe_one (pe_cmpR op_in_seq (pV 1) (pe_call G_housenames hr rfl m_housenames k_housenames b_housenames .nil pass0 (pa_cons (pV 0) pa_nil)) rfl))))), ?_⟩
    refine ⟨y, rfl, hy.kind.1, fun H1 s1 => ?_⟩
    cases en : isN y with
    | false => exact q H1 s1
    | true =>
      obtain ⟨z, rfl⟩ : ∃ z, y = .str z := by
        cases y <;> first | exact ⟨_, rfl⟩ | cases en
      have ed : d = .str z := by cases hy; rfl
      refine ⟨x, hs, l, rfl, hx.same s1, fun a H2 ha s2 => ?_⟩
      refine ⟨a, _, rfl, .inl (SqL.of ha), rfl, ?_, ?_⟩
      · rw [List.all_map]; exact List.all_eq_true.mpr fun _ _ => rfl
      · have e : inV (.str z) (hs.map fun h => V.str h.name) = false := by
          unfold inV
          rw [List.any_map]
          refine List.any_eq_false.mpr fun h hh => ?_
          have := hn z ed en h hh
          show ¬ (eqV (.str h.name) (.str z) = true)
          simp [eqV, this]
        show Q (.bl (inV (.str z) (hs.map fun h => V.str h.name))) H2
        rw [e]
        exact q H2 (s1.trans s2)
theorem sc_mend : FnScope ["ledger", "house", "word", "shown", "enough", "more", "placing"] ["ledger", "house"] (defScope sMend) := ⟨rfl, rfl, rfl, by decide +kernel, rfl, by decide +kernel, by decide +kernel⟩
theorem ok_mend {f f_hashouse : Addr} {fd fd_hashouse : FuncData} (F : Fun K "mend" "mend" sMend f fd) (T : Txt mg t8) {cH : Addr} (mH : mg "NoHouse" = some (.ref cH)) (xH : PySem.W.excIn K cH [.type "ValueError", .type "Exception", .type "BaseException", .type "object"] "ValueError.__new__" = true)
    (G_hashouse : FnOk P w K mg base CX0 2 f_hashouse fd_hashouse ["ledger", "thing"] spHas) (m_hashouse : mg "has_house" = some (.ref f_hashouse)) (k_hashouse : PySem.W.keepIn K (.ref f_hashouse) = true) (b_hashouse : Binds K fd_hashouse ["ledger", "thing"] []) : FnOk P w K mg base (CX1 P w) 3 f fd ["ledger", "house"] (spMend cH) := by
  refine F.okX sc_mend (fun vs H Q E h => ?_) (fun cdv A outer s H vs Q E hr h => ?_)
  · obtain ⟨x, y, hs, l, d, rfl, _⟩ := h
    rfl
  · obtain ⟨x, y, hs, l, d, rfl, hx, hy, hn, q⟩ := h
    refine ⟨_, (pss_cons (ps_if (pt_not (ptV (pe_call G_hashouse hr rfl m_hashouse k_hashouse b_hashouse .nil pass0 (pa_cons (pV 0) (pa_cons (pV 1) pa_nil))))) (pss_one (ps_raise leaves_of xH rfl mH (pa_cons pe_str pa_nil))) pss_nil) pss_never), ?_⟩
    refine ⟨x, y, hs, l, d, rfl, hx, hy, hn, fun H1 s1 => ?_⟩
    exact ⟨by show 1 ≤ sizeLine; rw [sizeLine_eq]; decide, q H1 s1⟩
end
end K49
namespace K49
open PySem L2 K02 PyProof.Rows
structure Cls (K : PySem.W.Frag) (mg : Str → Option Value) (cS cH : Addr) : Prop where
  ex : exCls K cH = true
  xi : PySem.W.excIn K cH [.type "ValueError", .type "Exception", .type "BaseException", .type "object"] "ValueError.__new__" = true
  mS : mg "SkewError" = some (.ref cS)
  mH : mg "NoHouse" = some (.ref cH)
  em : PySem.W.exmOne K (.ref cH) (.ref cS) = some true
  kS : PySem.W.kitOne K (.ref cH) (.ref cS) = some true
  kV : PySem.W.kitOne K (.ref cH) (.type "ValueError") = some true
  m0 : ∃ c, mg "NoBound" = some (.ref c) ∧ PySem.W.kitOne K (.ref cH) (.ref c) = some false
  m1 : ∃ c, mg "NoPlacing" = some (.ref c) ∧ PySem.W.kitOne K (.ref cH) (.ref c) = some false
  m2 : ∃ c, mg "NoRow" = some (.ref c) ∧ PySem.W.kitOne K (.ref cH) (.ref c) = some false
  m3 : ∃ c, mg "NoWord" = some (.ref c) ∧ PySem.W.kitOne K (.ref cH) (.ref c) = some false
  m4 : ∃ c, mg "TooMany" = some (.ref c) ∧ PySem.W.kitOne K (.ref cH) (.ref c) = some false
  m5 : ∃ c, mg "NoNumber" = some (.ref c) ∧ PySem.W.kitOne K (.ref cH) (.ref c) = some false
  m6 : ∃ c, mg "NoOrder" = some (.ref c) ∧ PySem.W.kitOne K (.ref cH) (.ref c) = some false
  m8 : ∃ c, mg "NoRun" = some (.ref c) ∧ PySem.W.kitOne K (.ref cH) (.ref c) = some false
  m9 : ∃ c, mg "NoReading" = some (.ref c) ∧ PySem.W.kitOne K (.ref cH) (.ref c) = some false
  m10 : ∃ c, mg "NoLetter" = some (.ref c) ∧ PySem.W.kitOne K (.ref cH) (.ref c) = some false
  m11 : ∃ c, mg "NoMerge" = some (.ref c) ∧ PySem.W.kitOne K (.ref cH) (.ref c) = some false
  m12 : ∃ c, mg "NoText" = some (.ref c) ∧ PySem.W.kitOne K (.ref cH) (.ref c) = some false
  m13 : ∃ c, mg "NoCall" = some (.ref c) ∧ PySem.W.kitOne K (.ref cH) (.ref c) = some false
  m14 : ∃ c, mg "NoKept" = some (.ref c) ∧ PySem.W.kitOne K (.ref cH) (.ref c) = some false
theorem kitOne_self {K : PySem.W.Frag} {v : Value} : PySem.W.kitOne K v v = some true := by
  unfold PySem.W.kitOne
  rw [if_pos (by simp)]
theorem boot_ValErr : bootBuiltins "ValueError" = some (.type "ValueError") := by rfl
noncomputable def flags : List Bool := [false, false, false, false, false, false, false, true, false, false, false, false, false, false, false]
theorem flag_at : ∀ i : Nat, i < 15 → flags[i]? = some (decide ((0 : Int) + (i : Int) = 7)) := by decide
theorem dpA_bl {K : PySem.W.Frag} {H : Hp} : ∀ bs : List Bool, DpA K H (bs.map V.bl) (bs.map PyData.bool)
  | [] => .nil
  | b :: bs => .cons (.bl b) (dpA_bl bs)
noncomputable def spOnly (cH : Addr) : Sp := fun vs H Q _ => ∃ a : Addr, vs = [.ref a, .int 7] ∧ H a = some (exO a cH) ∧ ∀ H', Same H H' → Q (.bl true) H'
section
variable {P : Program} {w : World} {K : PySem.W.Frag} {mg : Str → Option Value} {base : Heap} {t8 : Tok}
theorem sc_only : FnScope ["_law_e", "_law_at", "_law_found"] ["_law_e", "_law_at"] (defScope sOnly) := ⟨rfl, rfl, rfl, by decide +kernel, rfl, by decide +kernel, by decide +kernel⟩
theorem ok_only {f : Addr} {fd : FuncData} (F : Fun K "_law_only" "_law_only" sOnly f fd) (T : Txt mg t8) {cS cH : Addr} (C : Cls K mg cS cH) : FnOk P w K mg base CX0 1 f fd ["_law_e", "_law_at"] (spOnly cH) := by
  refine F.ok sc_only (fun vs H Q E h => ?_) (fun cdv A outer s H vs Q E hr h => ?_)
  · obtain ⟨a, rfl, _⟩ := h
    rfl
  · obtain ⟨a, rfl, ha, q⟩ := h
    obtain ⟨c0, m0, k0⟩ := C.m0
    obtain ⟨c1, m1, k1⟩ := C.m1
    obtain ⟨c2, m2, k2⟩ := C.m2
    obtain ⟨c3, m3, k3⟩ := C.m3
    obtain ⟨c4, m4, k4⟩ := C.m4
    obtain ⟨c5, m5, k5⟩ := C.m5
    obtain ⟨c6, m6, k6⟩ := C.m6
    obtain ⟨c8, m8, k8⟩ := C.m8
    obtain ⟨c9, m9, k9⟩ := C.m9
    obtain ⟨c10, m10, k10⟩ := C.m10
    obtain ⟨c11, m11, k11⟩ := C.m11
    obtain ⟨c12, m12, k12⟩ := C.m12
    obtain ⟨c13, m13, k13⟩ := C.m13
    obtain ⟨c14, m14, k14⟩ := C.m14
    refine ⟨_, (pss_cons (ps_set (i := 2) sc_only.nd rfl (Or.inl rfl) (pe_lst (pa_cons (pe_callB call_isiX rfl T.isi PyProof.Rows.boot_isinstance (pa_cons (pV 0) (pa_cons (pe_glob (v := .ref c0) rfl m0 rfl) pa_nil))) (pa_cons (pe_callB call_isiX rfl T.isi PyProof.Rows.boot_isinstance (pa_cons (pV 0) (pa_cons (pe_glob (v := .ref c1) rfl m1 rfl) pa_nil))) (pa_cons (pe_callB call_isiX rfl T.isi PyProof.Rows.boot_isinstance (pa_cons (pV 0) (pa_cons (pe_glob (v := .ref c2) rfl m2 rfl) pa_nil))) (pa_cons (pe_callB call_isiX rfl T.isi PyProof.Rows.boot_isinstance (pa_cons (pV 0) (pa_cons (pe_glob (v := .ref c3) rfl m3 rfl) pa_nil))) pa_nil)))))) (pss_cons (ps_set (i := 2) sc_only.nd rfl (Or.inl rfl) (pe_op op_cat (pV 2) (pe_lst (pa_cons (pe_callB call_isiX rfl T.isi PyProof.Rows.boot_isinstance (pa_cons (pV 0) (pa_cons (pe_glob (v := .ref c4) rfl m4 rfl) pa_nil))) (pa_cons (pe_callB call_isiX rfl T.isi PyProof.Rows.boot_isinstance (pa_cons (pV 0) (pa_cons (pe_glob (v := .ref c5) rfl m5 rfl) pa_nil))) (pa_cons (pe_callB call_isiX rfl T.isi PyProof.Rows.boot_isinstance (pa_cons (pV 0) (pa_cons (pe_glob (v := .ref c6) rfl m6 rfl) pa_nil))) (pa_cons (pe_callB call_isiX rfl T.isi PyProof.Rows.boot_isinstance (pa_cons (pV 0) (pa_cons (pe_glob (v := .ref cH) rfl C.mH rfl) pa_nil))) pa_nil))))))) (pss_cons (ps_set (i := 2) sc_only.nd rfl (Or.inl rfl) (pe_op op_cat (pV 2) (pe_lst (pa_cons (pe_callB call_isiX rfl T.isi PyProof.Rows.boot_isinstance (pa_cons (pV 0) (pa_cons (pe_glob (v := .ref c8) rfl m8 rfl) pa_nil))) (pa_cons (pe_callB call_isiX rfl T.isi PyProof.Rows.boot_isinstance (pa_cons (pV 0) (pa_cons (pe_glob (v := .ref c9) rfl m9 rfl) pa_nil))) (pa_cons (pe_callB call_isiX rfl T.isi PyProof.Rows.boot_isinstance (pa_cons (pV 0) (pa_cons (pe_glob (v := .ref c10) rfl m10 rfl) pa_nil))) (pa_cons (pe_callB call_isiX rfl T.isi PyProof.Rows.boot_isinstance (pa_cons (pV 0) (pa_cons (pe_glob (v := .ref c11) rfl m11 rfl) pa_nil))) pa_nil))))))) (pss_cons (ps_set (i := 2) sc_only.nd rfl (Or.inl rfl) (pe_op op_cat (pV 2) (pe_lst (pa_cons (pe_callB call_isiX rfl T.isi PyProof.Rows.boot_isinstance (pa_cons (pV 0) (pa_cons (pe_glob (v := .ref c12) rfl m12 rfl) pa_nil))) (pa_cons (pe_callB call_isiX rfl T.isi PyProof.Rows.boot_isinstance (pa_cons (pV 0) (pa_cons (pe_glob (v := .ref c13) rfl m13 rfl) pa_nil))) (pa_cons (pe_callB call_isiX rfl T.isi PyProof.Rows.boot_isinstance (pa_cons (pV 0) (pa_cons (pe_glob (v := .ref c14) rfl m14 rfl) pa_nil))) pa_nil)))))) (pss_cons (ps_if (ptOr (pt_not (ptV (pe_callB call_isiX rfl T.isi PyProof.Rows.boot_isinstance (pa_cons (pV 0) (pa_cons (pe_glob (v := .ref cS) rfl C.mS rfl) pa_nil))))) (pw_or1 (pt_not (ptV (pe_callB call_isiX rfl T.isi PyProof.Rows.boot_isinstance (pa_cons (pV 0) (pa_cons (pe_bltn (v := .ty "ValueError") rfl T.valErr boot_ValErr rfl) pa_nil))))))) (pss_one (ps_ret pe_bl)) pss_nil) (pss_one (ps_ret (pe_cmpR (op_eqD hr.units) (pV 2) (pe_comp (scX := defScope sOnly) (own := ["_law_k"]) (cap := ["_law_at"]) (ix := [1]) rfl rfl ⟨rfl, by decide +kernel, by decide +kernel, by decide +kernel, rfl, by decide +kernel⟩ (pi_range1 rfl T.range (pa_cons pe_int pa_nil)) (fun b => (pg_name (i := 0) (show (["_law_k", "_law_at"] : List Str).Nodup by decide +kernel) rfl (Or.inl rfl))) (fun b => pif_nil) (fun b => (pe_cmpR oEq (pV 0) (pV 1) (nomark _)))) (nomark _))))))))), ?_⟩
    have sl0 : sizeLine = 16777216 := sizeLine_eq
    refine asg_i fun U1 hU1 => ?_
    refine ⟨a, cH, _, .ref c0, false, rfl, fun _ z => z, ha, C.ex, k0, ?_⟩
    refine ⟨a, cH, _, .ref c1, false, rfl, fun _ z => z, ha, C.ex, k1, ?_⟩
    refine ⟨a, cH, _, .ref c2, false, rfl, fun _ z => z, ha, C.ex, k2, ?_⟩
    refine ⟨a, cH, _, .ref c3, false, rfl, fun _ z => z, ha, C.ex, k3, ?_⟩
    refine ⟨by show 4 ≤ sizeLine; omega, fun l1 hl1 => ?_⟩
    show U1 _ _
    subst hU1
    have s1 : Same H (upd H l1 (.lst [V.bl false, V.bl false, V.bl false, V.bl false])) := (Same.refl H).upd hl1
    have e1 : upd H l1 (.lst [V.bl false, V.bl false, V.bl false, V.bl false]) l1 = some (.lst [V.bl false, V.bl false, V.bl false, V.bl false]) := upd_same
    generalize eH1 : upd H l1 (.lst [V.bl false, V.bl false, V.bl false, V.bl false]) = H1 at s1 e1 ⊢
    refine asg_i fun U2 hU2 => ?_
    refine ⟨a, cH, _, .ref c4, false, rfl, fun _ z => z, (s1 _ _ ha), C.ex, k4, ?_⟩
    refine ⟨a, cH, _, .ref c5, false, rfl, fun _ z => z, (s1 _ _ ha), C.ex, k5, ?_⟩
    refine ⟨a, cH, _, .ref c6, false, rfl, fun _ z => z, (s1 _ _ ha), C.ex, k6, ?_⟩
    refine ⟨a, cH, _, .ref cH, true, rfl, fun _ z => z, (s1 _ _ ha), C.ex, kitOne_self, ?_⟩
    refine ⟨by show 4 ≤ sizeLine; omega, fun b1 hb1 => ?_⟩
    refine ⟨l1, b1, [V.bl false, V.bl false, V.bl false, V.bl false], [V.bl false, V.bl false, V.bl false, V.bl true], rfl, rfl, (upd_ne (ne_of_none e1 hb1)).trans e1, upd_same, by show 8 ≤ sizeLine; omega, fun l2 hl2 => ?_⟩
    show U2 _ _
    subst hU2
    have s2 : Same H (upd (upd H1 b1 (.lst [V.bl false, V.bl false, V.bl false, V.bl true])) l2 (.lst ([V.bl false, V.bl false, V.bl false, V.bl false] ++ [V.bl false, V.bl false, V.bl false, V.bl true]))) := (s1.trans ((Same.refl H1).upd hb1)).trans ((Same.refl _).upd hl2)
    have e2 : upd (upd H1 b1 (.lst [V.bl false, V.bl false, V.bl false, V.bl true])) l2 (.lst ([V.bl false, V.bl false, V.bl false, V.bl false] ++ [V.bl false, V.bl false, V.bl false, V.bl true])) l2 = some (.lst ([V.bl false, V.bl false, V.bl false, V.bl false] ++ [V.bl false, V.bl false, V.bl false, V.bl true])) := upd_same
    generalize eH2 : upd (upd H1 b1 (.lst [V.bl false, V.bl false, V.bl false, V.bl true])) l2 (.lst ([V.bl false, V.bl false, V.bl false, V.bl false] ++ [V.bl false, V.bl false, V.bl false, V.bl true])) = H2 at s2 e2 ⊢
    refine asg_i fun U3 hU3 => ?_
    refine ⟨a, cH, _, .ref c8, false, rfl, fun _ z => z, (s2 _ _ ha), C.ex, k8, ?_⟩
    refine ⟨a, cH, _, .ref c9, false, rfl, fun _ z => z, (s2 _ _ ha), C.ex, k9, ?_⟩
    refine ⟨a, cH, _, .ref c10, false, rfl, fun _ z => z, (s2 _ _ ha), C.ex, k10, ?_⟩
    refine ⟨a, cH, _, .ref c11, false, rfl, fun _ z => z, (s2 _ _ ha), C.ex, k11, ?_⟩
    refine ⟨by show 4 ≤ sizeLine; omega, fun b2 hb2 => ?_⟩
    refine ⟨l2, b2, ([V.bl false, V.bl false, V.bl false, V.bl false] ++ [V.bl false, V.bl false, V.bl false, V.bl true]), [V.bl false, V.bl false, V.bl false, V.bl false], rfl, rfl, (upd_ne (ne_of_none e2 hb2)).trans e2, upd_same, by show 12 ≤ sizeLine; omega, fun l3 hl3 => ?_⟩
    show U3 _ _
    subst hU3
    have s3 : Same H (upd (upd H2 b2 (.lst [V.bl false, V.bl false, V.bl false, V.bl false])) l3 (.lst (([V.bl false, V.bl false, V.bl false, V.bl false] ++ [V.bl false, V.bl false, V.bl false, V.bl true]) ++ [V.bl false, V.bl false, V.bl false, V.bl false]))) := (s2.trans ((Same.refl H2).upd hb2)).trans ((Same.refl _).upd hl3)
    have e3 : upd (upd H2 b2 (.lst [V.bl false, V.bl false, V.bl false, V.bl false])) l3 (.lst (([V.bl false, V.bl false, V.bl false, V.bl false] ++ [V.bl false, V.bl false, V.bl false, V.bl true]) ++ [V.bl false, V.bl false, V.bl false, V.bl false])) l3 = some (.lst (([V.bl false, V.bl false, V.bl false, V.bl false] ++ [V.bl false, V.bl false, V.bl false, V.bl true]) ++ [V.bl false, V.bl false, V.bl false, V.bl false])) := upd_same
    generalize eH3 : upd (upd H2 b2 (.lst [V.bl false, V.bl false, V.bl false, V.bl false])) l3 (.lst (([V.bl false, V.bl false, V.bl false, V.bl false] ++ [V.bl false, V.bl false, V.bl false, V.bl true]) ++ [V.bl false, V.bl false, V.bl false, V.bl false])) = H3 at s3 e3 ⊢
    refine asg_i fun U4 hU4 => ?_
    refine ⟨a, cH, _, .ref c12, false, rfl, fun _ z => z, (s3 _ _ ha), C.ex, k12, ?_⟩
    refine ⟨a, cH, _, .ref c13, false, rfl, fun _ z => z, (s3 _ _ ha), C.ex, k13, ?_⟩
    refine ⟨a, cH, _, .ref c14, false, rfl, fun _ z => z, (s3 _ _ ha), C.ex, k14, ?_⟩
    refine ⟨by show 3 ≤ sizeLine; omega, fun b3 hb3 => ?_⟩
    refine ⟨l3, b3, (([V.bl false, V.bl false, V.bl false, V.bl false] ++ [V.bl false, V.bl false, V.bl false, V.bl true]) ++ [V.bl false, V.bl false, V.bl false, V.bl false]), [V.bl false, V.bl false, V.bl false], rfl, rfl, (upd_ne (ne_of_none e3 hb3)).trans e3, upd_same, by show 15 ≤ sizeLine; omega, fun l4 hl4 => ?_⟩
    show U4 _ _
    subst hU4
    have s4 : Same H (upd (upd H3 b3 (.lst [V.bl false, V.bl false, V.bl false])) l4 (.lst ((([V.bl false, V.bl false, V.bl false, V.bl false] ++ [V.bl false, V.bl false, V.bl false, V.bl true]) ++ [V.bl false, V.bl false, V.bl false, V.bl false]) ++ [V.bl false, V.bl false, V.bl false]))) := (s3.trans ((Same.refl H3).upd hb3)).trans ((Same.refl _).upd hl4)
    have e4 : upd (upd H3 b3 (.lst [V.bl false, V.bl false, V.bl false])) l4 (.lst ((([V.bl false, V.bl false, V.bl false, V.bl false] ++ [V.bl false, V.bl false, V.bl false, V.bl true]) ++ [V.bl false, V.bl false, V.bl false, V.bl false]) ++ [V.bl false, V.bl false, V.bl false])) l4 = some (.lst ((([V.bl false, V.bl false, V.bl false, V.bl false] ++ [V.bl false, V.bl false, V.bl false, V.bl true]) ++ [V.bl false, V.bl false, V.bl false, V.bl false]) ++ [V.bl false, V.bl false, V.bl false])) := upd_same
    generalize eH4 : upd (upd H3 b3 (.lst [V.bl false, V.bl false, V.bl false])) l4 (.lst ((([V.bl false, V.bl false, V.bl false, V.bl false] ++ [V.bl false, V.bl false, V.bl false, V.bl true]) ++ [V.bl false, V.bl false, V.bl false, V.bl false]) ++ [V.bl false, V.bl false, V.bl false])) = H4 at s4 e4 ⊢
    refine ⟨a, cH, _, .ref cS, true, rfl, fun _ z => z, s4 _ _ ha, C.ex, C.kS, ?_⟩
    refine ⟨a, cH, _, .type "ValueError", true, rfl, fun _ z => z, s4 _ _ ha, C.ex, C.kV, ?_⟩
    refine ⟨15, rfl, by decide, by decide, fun D hD => comp_range (lo := 0) (n := 15) (fun i H' => Grow H4 H' D ((flags.take i).map V.bl)) (Grow.start hD) (fun H' G => ?_) (fun i H' hi G b => ?_)⟩
    · refine ⟨.list (flags.map .bool), .list (flags.map .bool), .lst (SqL.of (G.same _ _ e4)) (dpA_bl flags), .lst (SqL.of G.at') (dpA_bl flags), by decide, by decide, ?_⟩
      exact q H' (s4.trans G.same)
    · refine ⟨_, G.at', by rw [List.length_map, List.length_take]; omega, nx hi ?_⟩
      show Grow H4 _ D ((flags.take (i + 1)).map V.bl)
      rw [List.take_add_one, flag_at i hi, List.map_append]
      exact G.put hD _
end
end K49
namespace K49
open PySem L2 K02 PyProof.Rows
noncomputable def spRefused : Sp := fun vs H Q _ => ∃ (x y : V) (hs : List House) (l d : Da), vs = [x, y] ∧ DaAt H x (.tup [housesDa hs, l]) ∧ DaAt H y d ∧ NoHs hs d ∧ ∀ H', Same H H' → Q (.bl true) H'
section
variable {P : Program} {w : World} {K : PySem.W.Frag} {mg : Str → Option Value} {base : Heap} {t8 : Tok}
theorem sc_refused : FnScope ["_law_ledger_here", "_law_thing", "_law_caught", "_law_e"] ["_law_ledger_here", "_law_thing"] (defScope sRefused) := ⟨rfl, rfl, rfl, by decide +kernel, rfl, by decide +kernel, by decide +kernel⟩
theorem ok_refused {f f_mend f_only : Addr} {fd fd_mend fd_only : FuncData} (F : Fun K "_law_refused" "_law_refused" sRefused f fd) (T : Txt mg t8) {cS cH : Addr} (C : Cls K mg cS cH)
    (G_mend : FnOk P w K mg base (CX1 P w) 3 f_mend fd_mend ["ledger", "house"] (spMend cH)) (m_mend : mg "mend" = some (.ref f_mend)) (k_mend : PySem.W.keepIn K (.ref f_mend) = true) (b_mend : Binds K fd_mend ["ledger", "house"] [])
    (G_only : FnOk P w K mg base CX0 3 f_only fd_only ["_law_e", "_law_at"] (spOnly cH)) (m_only : mg "_law_only" = some (.ref f_only)) (k_only : PySem.W.keepIn K (.ref f_only) = true) (b_only : Binds K fd_only ["_law_e", "_law_at"] []) : FnOk P w K mg base CX0 4 f fd ["_law_ledger_here", "_law_thing"] spRefused := by
  refine F.ok sc_refused (fun vs H Q E h => ?_) (fun cdv A outer s H vs Q E hr h => ?_)
  · obtain ⟨x, y, hs, l, d, rfl, _⟩ := h
    rfl
  · obtain ⟨x, y, hs, l, d, rfl, hx, hy, hn, q⟩ := h
    refine ⟨_, (pss_cons (ps_set (i := 2) sc_refused.nd rfl (Or.inl rfl) pe_non) (pss_cons (ps_try (i := 3) G_mend hr rfl m_mend k_mend b_mend .nil (pa_cons (pV 0) (pa_cons (pV 1) pa_nil)) rfl rfl sc_refused.nd rfl rfl rfl C.mS (fun a E' => pss_one (ps_set (i := 2) sc_refused.nd rfl (Or.inl rfl) (pV 3)))) (pss_one (ps_ret (pe_call G_only hr rfl m_only k_only b_only .nil pass0 (pa_cons (pV 2) (pa_cons pe_int pa_nil))))))), ?_⟩
    refine ⟨x, y, hs, l, d, rfl, hx, hy, hn, fun H1 s1 => ⟨C.em, fun a c ec na => ?_⟩⟩
    cases ec
    refine ⟨a, rfl, upd_same, fun H2 s2 => q H2 ?_⟩
    exact s1.trans (((Same.refl H1).upd na).trans s2)
end
end K49
namespace K49
open PySem L2 K02
noncomputable def spDrawn (K : PySem.W.Frag) : Sp := fun vs H Q _ => ∃ (a : Addr) (ns : List Int), vs = [.ref a] ∧ SqL K H a (ns.map V.int) ∧ (∀ n ∈ ns, Bits n) ∧ ns.length ≤ 63 ∧ ∀ (t p : Addr) (x : V) (hs : List House) (ls : List Letter) (H' : Hp), H' t = some (.tup [x, .ref p]) → DaAt H' x (.tup [housesDa hs, lettersDa ls]) → GoodHouses hs → GoodLetters hs ls → (∀ z ∈ hs.map House.name, z ∈ nmL) → PackAt H' p → Same H H' → Q (.ref t) H'
noncomputable def PvN (a p : Addr) (H : Hp) : Nat → St → Hp → Prop := fun _ σ H' => ∃ (x : V) (hs : List House) (ls : List Letter) (o3 : Option V), σ = [some (.ref a), some x, some (.ref p), o3] ∧ DaAt H' x (.tup [housesDa hs, lettersDa ls]) ∧ GoodHouses hs ∧ GoodLetters hs ls ∧ (∀ z ∈ hs.map House.name, z ∈ nmL) ∧ PackAt H' p ∧ Same H H'
section
variable {P : Program} {w : World} {K : PySem.W.Frag} {mg : Str → Option Value} {base : Heap} {t8 : Tok}
theorem sc_drawn : FnScope ["_law_script", "_law_ledger_here", "_law_pack_here", "_law_turn"] ["_law_script"] (defScope sDrawn) := ⟨rfl, rfl, rfl, by decide +kernel, rfl, by decide +kernel, by decide +kernel⟩
theorem ok_drawn {f f_mkledger f_pack f_take f_bent : Addr} {fd fd_mkledger fd_pack fd_take fd_bent : FuncData} (F : Fun K "_law_drawn" "_law_drawn" sDrawn f fd) (T : Txt mg t8)
    (G_mkledger : FnOk P w K mg base CX0 3 f_mkledger fd_mkledger ["_law_script", "_law_k"] (spMkLedger K)) (m_mkledger : mg "_law_ledger" = some (.ref f_mkledger)) (k_mkledger : PySem.W.keepIn K (.ref f_mkledger) = true) (b_mkledger : Binds K fd_mkledger ["_law_script", "_law_k"] [])
    (G_pack : FnOk P w K mg base CX0 3 f_pack fd_pack ["_law_script", "_law_k"] (spPack K)) (m_pack : mg "_law_pack" = some (.ref f_pack)) (k_pack : PySem.W.keepIn K (.ref f_pack) = true) (b_pack : Binds K fd_pack ["_law_script", "_law_k"] [])
    (G_take : FnOk P w K mg base CX0 3 f_take fd_take ["_law_pack_here", "_law_size"] spTake) (m_take : mg "_law_take" = some (.ref f_take)) (k_take : PySem.W.keepIn K (.ref f_take) = true) (b_take : Binds K fd_take ["_law_pack_here", "_law_size"] [])
    (G_bent : FnOk P w K mg base CX0 3 f_bent fd_bent ["_law_pack_here", "_law_ledger_here"] spBent) (m_bent : mg "_law_bent" = some (.ref f_bent)) (k_bent : PySem.W.keepIn K (.ref f_bent) = true) (b_bent : Binds K fd_bent ["_law_pack_here", "_law_ledger_here"] []) : FnOk P w K mg base CX0 4 f fd ["_law_script"] (spDrawn K) := by
  refine F.ok sc_drawn (fun vs H Q E h => ?_) (fun cdv A outer s H vs Q E hr h => ?_)
  · obtain ⟨a, ns, rfl, _⟩ := h
    rfl
  · obtain ⟨a, ns, rfl, ha, hb, hl, q⟩ := h
    refine ⟨_, (SSs.h (qss_cons (qs_set (i := 1) sc_drawn.nd rfl (Or.inl rfl) (qe_call G_mkledger hr rfl m_mkledger k_mkledger b_mkledger .nil pass0 (qa_cons (qV 0) (qa_cons qe_int qa_nil)))) (qss_cons (qs_set (i := 2) sc_drawn.nd rfl (Or.inl rfl) (qe_call G_pack hr rfl m_pack k_pack b_pack .nil pass0 (qa_cons (qV 0) (qa_cons qe_int qa_nil)))) (qss_cons (qs_for PassesOwn.never rfl (qi_range1 rfl T.range (qa_cons (qe_call G_take hr rfl m_take k_take b_take .nil pass0 (qa_cons (qV 2) (qa_cons qe_int qa_nil))) qa_nil)) (qg_name (i := 3) sc_drawn.nd rfl (Or.inl rfl)) (qss_one (qs_set (i := 1) sc_drawn.nd rfl (Or.inl rfl) (qe_call G_bent hr rfl m_bent k_bent b_bent .nil pass0 (qa_cons (qV 2) (qa_cons (qV 1) qa_nil)))))) (qss_one (qs_ret (qe_tup (qa_cons (qV 1) (qa_cons (qV 2) qa_nil))))))))), ?_⟩
    refine asg_h fun U1 hU1 => ?_
    refine ⟨a, ns, 0, rfl, ha, hb, hl, by decide, by decide, fun x hs ls H1 lat gh gl nm s1 => ?_⟩
    subst hU1
    show tSeq (tAsg _ _) _ _ [some (.ref a), some x, none, none] H1
    refine asg_h fun U2 hU2 => ?_
    refine ⟨a, ns, 6, rfl, sql_same s1 ha, hb, hl, by decide, by decide, fun p H2 fp hp2 s2 => ?_⟩
    subst hU2
    show tSeq _ _ _ [some (.ref a), some x, some (.ref p), none] H2
    have hx : DaAt H2 x (.tup [housesDa hs, lettersDa ls]) := (lat.da gh gl).same s2
    have S2 : Same H H2 := s1.trans s2
    have fp0 : H p = none := fresh_up s1 fp
    refine ⟨p, 3, rfl, hp2, by decide, by decide, fun n3 H3 n3a n3b hp3 s3 => ?_⟩
    refine ⟨n3, rfl, by omega, by omega, for_range (lo := 0) (n := n3.toNat) (PvN a p H) ?_ (fun i σ H' hi hz => ?_) (fun σ H' hz => ?_)⟩
    · exact ⟨x, hs, ls, _, rfl, hx.kp (kp_take hp2 hp3 s3), gh, gl, nm, hp3, same_new S2 fp0 s3⟩
    · obtain ⟨x, hs, ls, o3, rfl, hx, gh, gl, nm, pk, S⟩ := hz
      refine ⟨p, x, hs, ls, rfl, pk, hx, gh, gl, fun y hs' ls' H4 hy gh' gl' en pk4 sb => ?_⟩
      exact ⟨y, hs', ls', _, rfl, hy, gh', gl', by rw [en]; exact nm, pk4, same_new S fp0 sb⟩
    · obtain ⟨x, hs, ls, o3, rfl, hx, gh, gl, nm, pk, S⟩ := hz
      refine ⟨by show 2 ≤ sizeLine; rw [sizeLine_eq]; decide, fun t ht => ?_⟩
      have s5 : Same H' (upd H' t (.tup [x, .ref p])) := (Same.refl H').upd ht
      exact q t p x hs ls _ upd_same (hx.same s5) gh gl nm (pk.new ht) (S.trans s5)
end
end K49
namespace L2
open PySem
theorem qif_one {X : Cx} {c : Expr} {t : TT} (h : ST X c t) : SIf X [c] t := ⟨pif_one h.h⟩
theorem qi_range2 {X : Cx} {tg a b : Expr} {ta : TA} {p pos : Pos} (hg : Gl X "range") (hm : X.mg "range" = none) (ha : SA X [a, b] ta) (hs : starEach [a, b] X.env = [(false, eval a X.env), (false, eval b X.env)] := by rfl) (hs2 : starEach [b] X.env = [(false, eval b X.env)] := by rfl) :
    SI X tg (.Call (.Name "range" p) [a, b] [] pos) (iRng2 ta) := ⟨pi_range2 hg hm ha.h hs hs2⟩
end L2
namespace K49
open PySem L2 K02
theorem nm_zq : ("zqzq" : Str) ∉ nmL := by decide +kernel
theorem no_nos {hs : List House} {d : Da} (h : ∀ z, d ≠ .str z) : NoHs hs d := fun z e => absurd e (h z)
theorem no_bad {hs : List House} {z : Str} (h : isN (.str z) = false) : NoHs hs (.str z) := fun z' e n => by cases e; rw [h] at n; cases n
theorem no_zq {hs : List House} (h : ∀ z ∈ hs.map House.name, z ∈ nmL) : NoHs hs (.str "zqzq") := fun z e _ k hk w => by
  cases e
  exact nm_zq (w ▸ h _ (List.mem_map_of_mem hk))
theorem bF_ite {p r : Hp → Prop} {H : Hp} (h : p H) : bF (fun c H1 => if c = true then p H1 else r H1) (.bl true) H := by
  show (if true = true then p H else r H)
  rw [if_pos rfl]; exact h
noncomputable def PvO (H4 : Hp) (D : Addr) (hs : List House) (ss : List Str) : Nat → Hp → Prop := fun i H' => ∃ rs : List Str, Grow H4 H' D (rs.map V.str) ∧ rs.length ≤ i ∧ ∀ z ∈ rs, z ∈ ss ∧ ∀ h ∈ hs, h.name ≠ z
theorem strs_at {H : Hp} : ∀ {rs : List Str}, (∀ z ∈ rs, z.length ≤ 8) → DaAs H (rs.map V.str) (rs.map Da.str)
  | [], _ => .nil
  | z :: rs, h => .cons (.str z (by have sl0 : sizeLine = 16777216 := sizeLine_eq; have := h z List.mem_cons_self; omega)) (strs_at fun y hy => h y (List.mem_cons_of_mem _ hy))
section
variable {P : Program} {w : World} {K : PySem.W.Frag} {mg : Str → Option Value} {base : Heap} {t8 : Tok}
theorem sc_law : FnScope ["_law_script", "_law_ledger_here", "_law_pack_here", "_law_things", "_law_k"] ["_law_script"] (defScope sLaw) := ⟨rfl, rfl, rfl, by decide +kernel, rfl, by decide +kernel, by decide +kernel⟩
theorem ok_law {f f_drawn f_pack f_take f_rows f_refused : Addr} {fd fd_drawn fd_pack fd_take fd_rows fd_refused : FuncData} (F : Fun K "law" "law" sLaw f fd) (T : Txt mg t8)
    (G_drawn : FnOk P w K mg base CX0 4 f_drawn fd_drawn ["_law_script"] (spDrawn K)) (m_drawn : mg "_law_drawn" = some (.ref f_drawn)) (k_drawn : PySem.W.keepIn K (.ref f_drawn) = true) (b_drawn : Binds K fd_drawn ["_law_script"] [])
    (G_pack : FnOk P w K mg base CX0 4 f_pack fd_pack ["_law_script", "_law_k"] (spPack K)) (m_pack : mg "_law_pack" = some (.ref f_pack)) (k_pack : PySem.W.keepIn K (.ref f_pack) = true) (b_pack : Binds K fd_pack ["_law_script", "_law_k"] [])
    (G_take : FnOk P w K mg base CX0 4 f_take fd_take ["_law_pack_here", "_law_size"] spTake) (m_take : mg "_law_take" = some (.ref f_take)) (k_take : PySem.W.keepIn K (.ref f_take) = true) (b_take : Binds K fd_take ["_law_pack_here", "_law_size"] [])
    (G_rows : FnOk P w K mg base CX0 4 f_rows fd_rows ["_law_ledger_here"] spRows) (m_rows : mg "_law_rows" = some (.ref f_rows)) (k_rows : PySem.W.keepIn K (.ref f_rows) = true) (b_rows : Binds K fd_rows ["_law_ledger_here"] [])
    (G_refused : FnOk P w K mg base CX0 4 f_refused fd_refused ["_law_ledger_here", "_law_thing"] spRefused) (m_refused : mg "_law_refused" = some (.ref f_refused)) (k_refused : PySem.W.keepIn K (.ref f_refused) = true) (b_refused : Binds K fd_refused ["_law_ledger_here", "_law_thing"] []) : FnOk P w K mg base CX0 5 f fd ["_law_script"] (spLaw K) := by
  refine F.ok sc_law (fun vs H Q E h => ?_) (fun cdv A outer s H vs Q E hr h => ?_)
  · obtain ⟨a, ns, rfl, _⟩ := h
    rfl
  · obtain ⟨a, ns, rfl, ha, hl, hb, q⟩ := h
    refine ⟨_, (SSs.h (qss_cons (qs_asg (qe_call G_drawn hr rfl m_drawn k_drawn b_drawn .nil pass0 (qa_cons (qV 0) qa_nil)) (qg_tup rfl (qgs_cons (qg_name (i := 1) sc_law.nd rfl (Or.inr rfl)) (qgs_cons (qg_name (i := 2) sc_law.nd rfl (Or.inl rfl)) qgs_nil)))) (qss_cons (qs_set (i := 3) sc_law.nd rfl (Or.inl rfl) (qe_lst (qa_cons qe_non (qa_cons qe_int (qa_cons qe_bl (qa_cons qe_str (qa_cons qe_str (qa_cons (qe_tup qa_nil) (qa_cons (qe_lst qa_nil) (qa_cons qe_dnewK (qa_cons (qe_tup (qa_cons qe_str qa_nil)) (qa_cons (qe_lst (qa_cons qe_str qa_nil)) (qa_cons (qe_ix ⟨iIxT⟩ (qe_ix ⟨iIxT⟩ (qV 1) qe_int (fun _ _ => rfl)) qe_int (fun _ _ => rfl)) (qa_cons qe_str qa_nil)))))))))))))) (qss_cons (qs_set (i := 3) sc_law.nd rfl (Or.inl rfl) (qe_op ⟨op_cat⟩ (qV 3) (qe_comp (scX := defScope sLaw) (own := ["_law_row"]) (cap := ["_law_ledger_here"]) (ix := [1]) rfl rfl ⟨rfl, by decide +kernel, by decide +kernel, by decide +kernel, rfl, by decide +kernel⟩ (qi_list (qe_slice ⟨sl_list⟩ (qe_call G_rows hr rfl m_rows k_rows b_rows .nil pass0 (qa_cons (qV 1) qa_nil)) qo_none (qoI qe_int))) (fun b => (qg_name (i := 0) (show (["_law_row", "_law_ledger_here"] : List Str).Nodup by decide +kernel) rfl (Or.inl rfl))) (fun b => (qif_one (qtC ⟨op_notIn_seq⟩ (qV 0) (qe_comp (scX := relabelS ({ kind := .function, names := [(Str.ofString ".0", .local), (Str.ofString "_law_row", .local), (Str.ofString "_law_ledger_here", .free)], isGenerator := false, isCoroutine := false } : Scope) (defScope sLaw)) (own := ["_law_house_here"]) (cap := []) (ix := []) rfl rfl ⟨rfl, by decide +kernel, by decide +kernel, by decide +kernel, rfl, by decide +kernel⟩ (qi_tup (qe_ix ⟨iIxT⟩ (qV 1) qe_int (fun _ _ => rfl))) (fun b => (qg_name (i := 0) (show (["_law_house_here"] : List Str).Nodup by decide +kernel) rfl (Or.inl rfl))) (fun b => qif_nil) (fun b => (qe_ix ⟨iIxT⟩ (qV 0) qe_int (fun _ _ => rfl)))) rfl))) (fun b => (qV 0))))) (qss_cons (qs_for PassesOwn.never rfl (qi_range2 rfl T.range (qa_cons qe_int (qa_cons qe_int qa_nil))) (qg_name (i := 4) sc_law.nd rfl (Or.inl rfl)) (qss_one (qs_if (qt_not (qtV (qe_call G_refused hr rfl m_refused k_refused b_refused .nil pass0 (qa_cons (qV 1) (qa_cons (qe_ix ⟨iIx⟩ (qV 3) (qe_call G_take hr rfl m_take k_take b_take .nil pass0 (qa_cons (qe_call G_pack hr rfl m_pack k_pack b_pack .nil pass0 (qa_cons (qV 0) (qa_cons (qV 4) qa_nil))) (qa_cons (qe_callB ⟨call_len_seq⟩ rfl T.len PySem.boot_len (qa_cons (qV 3) qa_nil)) qa_nil))) (fun _ _ => rfl)) qa_nil))))) (qss_one (qs_ret qe_bl)) qss_nil))) (qss_one (qs_ret (qeAnd (qe_call G_refused hr rfl m_refused k_refused b_refused .nil pass0 (qa_cons (qV 1) (qa_cons qe_str qa_nil))) (qe_one (qe_call G_refused hr rfl m_refused k_refused b_refused .nil pass0 (qa_cons (qe_tup (qa_cons (qe_slice ⟨iSlA⟩ (qe_ix ⟨iIxT⟩ (qV 1) qe_int (fun _ _ => rfl)) qo_none (qoI qe_int)) (qa_cons (qe_tup qa_nil) qa_nil))) (qa_cons (qe_lst (qa_cons qe_str qa_nil)) qa_nil)))))))))))), ?_⟩
    have sl0 : sizeLine = 16777216 := sizeLine_eq
    refine asg_h fun U1 hU1 => ?_
    refine ⟨a, ns, rfl, ha, hb, hl, fun t p x hs ls H1 et hx gh gl nm pk s1 => ?_⟩
    refine ⟨t, _, rfl, SqT.of et, rfl, _, _, rfl, _, _, rfl, rfl, ?_⟩
    subst hU1
    show tSeq (tAsg _ _) _ _ [some (.ref a), some x, some (.ref p), none, none] H1
    obtain ⟨ax, vx, rfl, eax, _, rx⟩ := hx.tupE
    obtain ⟨v1, v2, rfl, r1, r2⟩ := rx.two
    obtain ⟨ah, vh, rfl, eah, lvh, rh⟩ := DaAt.tupE r1
    have lh := rh.len
    rw [List.length_map] at lh
    have g1 := gh.lo
    have g6 := gh.hi
    obtain ⟨v0, ev0⟩ : ∃ v, vh[0]? = some v := ⟨_, List.getElem?_eq_getElem (by omega)⟩
    obtain ⟨d0, ed0, rv0⟩ := rh.get ev0
    rw [List.getElem?_map] at ed0
    obtain ⟨h0, eh0, rfl⟩ := Option.map_eq_some_iff.mp ed0
    refine (set_lstS (fun z => [some (.ref a), some (.ref ax), some (.ref p), z, none]) (fun _ => rfl) (tds_cons td_non (tds_cons td_int (tds_cons td_bl (tds_cons (td_str (by decide +kernel)) (tds_cons (td_str (by decide +kernel)) (tds_cons (td_tup tds_nil (by exact Nat.le_of_ble_eq_true rfl)) (tds_cons (td_lst tds_nil (by exact Nat.le_of_ble_eq_true rfl)) (tds_cons td_dic (tds_cons (td_tup (tds_cons (td_str (by decide +kernel)) tds_nil) (by exact Nat.le_of_ble_eq_true rfl)) (tds_cons (td_lst (tds_cons (td_str (by decide +kernel)) tds_nil) (by exact Nat.le_of_ble_eq_true rfl)) (tds_cons (TD.mk (d := houseDa h0) fun H2 s2 Q' q' => ?_) (tds_cons (td_str (by decide +kernel)) tds_nil)))))))))))) (by exact Nat.le_of_ble_eq_true rfl) fun a1 vs1 H2 fa1 s2 ea1 hv1 => ?_)
    · refine ixTup (SqT.of (s2 _ _ eax)) (i := 0) (v := .ref ah) (by rfl) ?_
      refine ixTup (SqT.of (s2 _ _ eah)) (i := 0) (v := v0) (by show atI _ ((0 : Nat) : Int) = _; exact atI_nat ev0) ?_
      exact q' v0 H2 (Same.refl _) (rv0.same s2)
    · refine asg_h fun U2 hU2 => ?_
      refine ⟨.ref ax, hs, ls, rfl, ⟨ax, .ref ah, v2, rfl, s2 _ _ eax, HousesAt.off (r1.same s2), LettersAt.off (r2.same s2)⟩, gh, fun lr ss H3 elr s3 pm so => ?_⟩
      refine ⟨lr, _, rfl, SqL.of elr, fun lc flc => ?_⟩
      obtain ⟨sr, esr, lsr, msr⟩ : ∃ sr : List Str, cutV (ss.map V.str) none (some 1) = sr.map V.str ∧ sr.length ≤ ss.length ∧ ∀ z ∈ sr, z ∈ ss := ⟨(ss.drop (HT.sIx (ss.map V.str).length 0 none)).take (HT.sIx (ss.map V.str).length (ss.map V.str).length (some 1) - HT.sIx (ss.map V.str).length 0 none), by unfold cutV; rw [List.map_take, List.map_drop], by rw [List.length_take, List.length_drop]; omega, fun z hz => List.mem_of_mem_drop (List.mem_of_mem_take hz)⟩
      rw [esr]
      have s4 : Same H3 (upd H3 lc (.lst (sr.map V.str))) := (Same.refl H3).upd flc
      have e4 : upd H3 lc (.lst (sr.map V.str)) lc = some (.lst (sr.map V.str)) := upd_same
      generalize upd H3 lc (.lst (sr.map V.str)) = H4 at s4 e4 ⊢
      have S4 : Same H1 H4 := (s2.trans s3).trans s4
      have lss : ss.length ≤ 24 := by rw [pm.length_eq]; exact gh.few
      refine ⟨lc, rfl, ⟨_, SqL.of e4⟩, fun D hD => comp_list (xs := sr.map V.str) (PvO H4 D hs ss) ⟨[], Grow.start hD, Nat.zero_le _, fun z hz => by simp at hz⟩ (fun i H' _ G => by obtain ⟨_, G, _⟩ := G; exact SqL.of (G.same _ _ e4)) (fun H5 G5 => ?_) (fun i y H5 hy hi G5 b => ?_)⟩
      · obtain ⟨rs, G, lrs, nrs⟩ := G5
        rw [List.length_map] at lrs
        have S5 : Same H1 H5 := S4.trans G.same
        have l1 : vs1.length = 12 := hv1.len
        refine ⟨a1, D, vs1, rs.map V.str, rfl, rfl, ((s3.trans s4).trans G.same) _ _ ea1, G.at', by rw [List.length_map]; omega, fun l2 fl2 => ?_⟩
        subst hU2
        have s6 : Same H5 (upd H5 l2 (.lst (vs1 ++ rs.map V.str))) := (Same.refl H5).upd fl2
        have e6 : upd H5 l2 (.lst (vs1 ++ rs.map V.str)) l2 = some (.lst (vs1 ++ rs.map V.str)) := upd_same
        have S6 : Same H1 (upd H5 l2 (.lst (vs1 ++ rs.map V.str))) := S5.trans s6
        show tSeq _ _ _ [some (.ref a), some (.ref ax), some (.ref p), some (.ref l2), none] _
        generalize upd H5 l2 (.lst (vs1 ++ rs.map V.str)) = H6 at s6 e6 S6 ⊢
        have dv : DaAs H6 (vs1 ++ rs.map V.str) ([.non, .int 0, .bl true, .str "", .str "Me", .tup [], .oth, .oth, .tup [.str "me"], .oth, houseDa h0, .str "zqzq"] ++ rs.map Da.str) := (hv1.same (((s3.trans s4).trans G.same).trans s6)).app (strs_at fun z hz => by
          have := (names_good gh.all (pm.mem_iff.mp (nrs z hz).1)).hi
          omega)
        have nv : ∀ d ∈ ([.non, .int 0, .bl true, .str "", .str "Me", .tup [], .oth, .oth, .tup [.str "me"], .oth, houseDa h0, .str "zqzq"] ++ rs.map Da.str : List Da), NoHs hs d := fun d hd => by
          rcases List.mem_append.mp hd with z | z
          · simp only [List.mem_cons, List.not_mem_nil, or_false] at z
            rcases z with z | z | z | z | z | z | z | z | z | z | z | z <;> subst z
            all_goals first | exact no_zq nm | exact no_bad (by decide +kernel) | exact no_nos (fun z e => by cases e)
          · obtain ⟨r, hr', rfl⟩ := List.mem_map.mp z
            exact fun z e _ => by cases e; exact (nrs r hr').2
        have hx6 : DaAt H6 (.ref ax) (.tup [housesDa hs, lettersDa ls]) := hx.same S6
        generalize [.non, .int 0, .bl true, .str "", .str "Me", .tup [], .oth, .oth, .tup [.str "me"], .oth, houseDa h0, .str "zqzq"] ++ rs.map Da.str = ds at dv nv
        have lds : (vs1 ++ rs.map V.str).length ≤ 36 ∧ 12 ≤ (vs1 ++ rs.map V.str).length := by rw [List.length_append, List.length_map]; omega
        generalize vs1 ++ rs.map V.str = vs2 at e6 dv lds
        have S06 : Same H H6 := s1.trans S6
        refine ⟨7, 10, rfl, by decide, for_range (lo := 7) (n := 3) (fun i σ H' => ∃ o4 : Option V, σ = [some (.ref a), some (.ref ax), some (.ref p), some (.ref l2), o4] ∧ Same H6 H') ⟨none, rfl, Same.refl _⟩ (fun i σ H7 hi hz => ?_) (fun σ H7 hz => ?_)⟩
        · obtain ⟨o4, rfl, s7⟩ := hz
          refine ⟨a, ns, 7 + (i : Int), rfl, sql_same (S06.trans s7) ha, hb, hl, by omega, by omega, fun p2 H8 fp2 pk8 s8 => ?_⟩
          refine ⟨l2, _, rfl, .inl (SqL.of ((s7.trans s8) _ _ e6)), ?_⟩
          refine ⟨p2, (vs2.length : Int), rfl, pk8, by omega, by omega, fun d H9 d0 d1 pk9 sb9 => ?_⟩
          have s9 : Same H7 H9 := same_new s8 fp2 sb9
          obtain ⟨n, rfl⟩ := Int.eq_ofNat_of_zero_le d0
          obtain ⟨v, ev⟩ : ∃ v, vs2[n]? = some v := ⟨_, List.getElem?_eq_getElem (by omega)⟩
          refine ixAt ((s7.trans s9) _ _ e6) (atI_nat ev) ?_
          obtain ⟨dd, edd, hvd⟩ := dv.get ev
          refine ⟨.ref ax, v, hs, lettersDa ls, dd, rfl, hx6.same (s7.trans s9), hvd.same (s7.trans s9), nv dd (List.mem_of_getElem? edd), fun H10 s10 => ?_⟩
          exact ⟨_, rfl, (s7.trans s9).trans s10⟩
        · obtain ⟨o4, rfl, s7⟩ := hz
          refine ⟨.ref ax, .str "zqzq", hs, lettersDa ls, .str "zqzq", rfl, hx6.same s7, .str _ (by rw [sizeLine_eq]; decide +kernel), no_zq nm, fun H8 s8 => ?_⟩
          have S8 : Same H1 H8 := (S6.trans s7).trans s8
          refine bF_ite ?_
          unfold tCall
          refine TDs.r (σ := [some (.ref a), some (.ref ax), some (.ref p), some (.ref l2), o4]) (H := H8) (tds_cons (td_tup (tds_cons (td_to (k := 1) (TD.mk (d := .tup (hs.map houseDa)) fun H9 s9 Q' q' => ?_) (tpo_i td_int)) (tds_cons (td_tup tds_nil (by exact Nat.le_of_ble_eq_true rfl)) tds_nil)) (by exact Nat.le_of_ble_eq_true rfl)) (tds_cons (td_lst (tds_cons (td_str (z := "me") (by decide +kernel)) tds_nil) (by exact Nat.le_of_ble_eq_true rfl)) tds_nil)) H8 (Same.refl _) _ fun vs H9 s9 hv => ?_
          · refine ixTup (SqT.of ((S8.trans s9) _ _ eax)) (i := 0) (v := .ref ah) (by rfl) ?_
            exact q' (.ref ah) H9 (Same.refl _) (r1.same (S8.trans s9))
          · obtain ⟨w1, w2, rfl, d1, d2⟩ := hv.two
            refine ⟨w1, w2, hs.take 1, .tup [], .oth, rfl, ?_, d2, no_nos (fun z e => by cases e), fun H10 s10 => q H10⟩
            unfold housesDa
            rw [List.map_take]
            exact d1
      · obtain ⟨rs, G, lrs, nrs⟩ := G5
        rw [List.getElem?_map] at hy
        obtain ⟨z, ez, rfl⟩ := Option.map_eq_some_iff.mp hy
        have S5 : Same H1 H5 := S4.trans G.same
        refine ixTup (SqT.of (S5 _ _ eax)) (i := 0) (v := .ref ah) (by rfl) ?_
        refine ⟨ah, rfl, ⟨_, SqT.of (S5 _ _ eah)⟩, fun D2 hD2 => comp_map (xs := vh) (ys := hs.map fun h => V.str h.name) hD2 (SqT.of (S5 _ _ eah)) (by omega) (by rw [List.length_map]; omega) (fun j y H6 hy s6 b R hR => ?_) (fun H6 s6 e6 => ?_)⟩
        · obtain ⟨d, hd, hxd⟩ := rh.get hy
          rw [List.getElem?_map] at hd
          obtain ⟨hh, eh, rfl⟩ := Option.map_eq_some_iff.mp hd
          obtain ⟨c1, ws1, rfl, h1, _, r3⟩ := (hxd.same (S5.trans s6)).tupE
          obtain ⟨u, us, rfl, ru, _⟩ := DaAs.inv r3
          cases ru
          refine ixTup (SqT.of h1) (i := 0) (v := .str hh.name) (by show atI _ ((0 : Nat) : Int) = _; exact atI_nat rfl) ?_
          exact hR H6 _ (by rw [List.getElem?_map, eh]; rfl) (Same.refl _)
        · have lss2 : rs.length ≤ 24 := by have := List.length_map (f := V.str) (as := sr); omega
          refine ⟨D2, _, rfl, .inl (SqL.of e6), rfl, by rw [List.all_map]; exact List.all_eq_true.mpr fun _ _ => rfl, ?_⟩
          cases ei : inV (.str z) (hs.map fun h => V.str h.name) with
          | true => exact nx hi ⟨rs, G.more s6, Nat.le_succ_of_le lrs, nrs⟩
          | false =>
            refine ⟨_, (G.more s6).at', by rw [List.length_map]; omega, nx hi ⟨rs ++ [z], ?_, ?_, fun y hy => ?_⟩⟩
            · rw [List.map_append]; exact (G.more s6).put hD _
            · rw [List.length_append]; exact Nat.add_le_add_right lrs 1
            · rcases List.mem_append.mp hy with w | w
              · exact nrs y w
              · rw [List.mem_singleton.mp w]
                refine ⟨msr z (List.mem_of_getElem? ez), fun h hh e => ?_⟩
                unfold inV at ei
                rw [List.any_map] at ei
                have k := List.any_eq_false.mp ei h hh
                exact k (by show eqV (.str h.name) (.str z) = true; simp [eqV, e])
end
end K49
noncomputable def PySem.W.Fast.tw6518633644341431610 : Unit := ()
noncomputable def PySem.W.Fast.tw8168492641957352215 : Unit := ()
noncomputable def PySem.W.Fast.tw8649686312161186062 : Unit := ()
noncomputable def PySem.W.Fast.tw7264191010563645944 : Unit := ()
noncomputable def PySem.W.Fast.tw18191809470898801522 : Unit := ()
noncomputable def PySem.W.Fast.tw2130225681261934978 : Unit := ()
noncomputable def PySem.W.Fast.tw4421061293619919306 : Unit := ()
noncomputable def PySem.W.Fast.tw15664184823309522292 : Unit := ()
noncomputable def PySem.W.Fast.tw8947964518159945873 : Unit := ()
noncomputable def PySem.W.Fast.tw16394891678369354391 : Unit := ()
noncomputable def PySem.W.Fast.tw16302440092398780527 : Unit := ()
noncomputable def PySem.W.Fast.tw7152429994100770401 : Unit := ()
noncomputable def PySem.W.Fast.tw7416734752182286059 : Unit := ()
noncomputable def PySem.W.Fast.tw3617356321510997890 : Unit := ()
noncomputable def PySem.W.Fast.tw11421934742196368293 : Unit := ()
noncomputable def PySem.W.Fast.tw4071466582931879866 : Unit := ()
noncomputable def PySem.W.Fast.tw13102314617079148791 : Unit := ()
noncomputable def PySem.W.Fast.tw3859946666540256634 : Unit := ()
namespace K49
open PySem L2 K02
theorem weight_mem : ∀ {xs : List PySem.W.WData} {x : PySem.W.WData}, x ∈ xs → PySem.W.WData.weight x ≤ PySem.W.WData.weightAll xs
  | y :: xs, x, h => by
    unfold PySem.W.WData.weightAll
    rcases List.mem_cons.mp h with z | z
    · rw [z]; omega
    · have := weight_mem z; omega
theorem bits_of {ns : List Int} (h : PySem.W.WData.layableAll [PySem.W.WData.list (ns.map PySem.W.WData.int)] = true) : ∀ n ∈ ns, Bits n := fun n hn => by
  have h1 := List.all_eq_true.mp h _ List.mem_cons_self
  unfold PySem.W.WData.layable at h1
  have h2 := of_decide_eq_true (Bool.and_eq_true_iff.mp h1).2
  unfold PySem.W.WData.weight at h2
  have h3 := weight_mem (List.mem_map_of_mem (f := PySem.W.WData.int) hn)
  unfold PySem.W.WData.weight at h3
  have e : (2 : Nat) ^ 20 = 1048576 := by decide
  rw [e] at h2
  exact Nat.le_trans h3 h2
theorem walk_bits {l : PySem.W.OpenLaw} {n k : Nat} {q : Program} {loose : List Str} {XP : (Str → Option Value) → Heap → Prop} {YP : World → Heap → Prop} {d : DefRec} {K : Params → PySem.W.Frag} {CX : World → CXT} {sp : World → Sp} {x : Str}
    (hn : l.most = some n) (hn2 : n ≤ sizeLine) (hdf : d.params.defaults = []) (hr : Room k callerA) (hY : ∀ (w : World) (h : Heap), YP w h → (K w.params).In h)
    (F : ∀ (w : World) (mg : Str → Option Value) (fa : Addr) (h : Heap), (K w.params).In h → h.Ns mainGlobals mg → mg d.name = some (.ref fa) →
      ∃ fd : FuncData, (∀ (s : Shared) (u : Value), BindsTo s fd ⟨[u], []⟩ [(x, u)]) ∧ ∀ base : Heap, (K w.params).In base → base.Ns mainGlobals mg → FnOk l.prog w (K w.params) mg base (CX w) k fa fd [x] (sp w))
    (hsp : ∀ (w : World) (H : Hp) (a : Addr) (ns : List Int), ns.length ≤ n → (∀ m ∈ ns, Bits m) → Only H → SqL (K w.params) H a (ns.map V.int) → sp w [.ref a] H (fun v _ => v = .bl true) fun _ _ _ => False)
    (hCX : ∀ (w : World) (H : Hp) (s : Shared) (e : Value) (s' : Shared), CX w [] H s (fun _ _ _ => False) e s' → False) : PySem.W.WalkO q loose XP YP l.row.toRowW d [] (fun f vs => PySem.call f vs) := by
  intro w s₀ s₁ mg mb G Y fa o pm cd doc dV kV ho hd hcd hD hmg hg args vals as hpre hlay hrd hwl hlo
  obtain rfl : dV = .none := PySem.W.Dflts.none hD hdf
  obtain rfl : kV = .none := PySem.W.Dflts.noKw hD
  obtain ⟨a, vs, ns, rfl, rfl, hobj, hints, hlen⟩ := Att.script_of hn hpre hwl
  have KX := hY w _ Y
  obtain ⟨fd, hb, hF⟩ := F w mg fa _ KX G.T.g hmg
  have key := law_call KX G.T.g G.T.b G.T.builtins G.T.nolimit hg hobj hints (Nat.le_trans hlen hn2) hr hF hb (fun H hO hS => hsp w H a ns hlen (bits_of hlay) hO hS) fun H e s' => hCX w H s₁ e s'
  refine PySem.W.enter_call (codeAny_mono key fun r s' hq => ?_)
  obtain ⟨rfl, h2, h3, h4⟩ := hq
  exact ⟨.inl ⟨.bool true, .bool true, [], rfl, fun _ => rfl, .bool true, Att.post_true l _, fun _ => ⟨List.Pairwise.nil, fun _ hm => (nomatch hm)⟩⟩, h2, h3, h4⟩
theorem exCls_mk {K : PySem.W.Frag} {C : Addr} (x1 : PySem.W.findIn K (.ref C) "__getattribute__" = some (some (.builtin "BaseException.__getattribute__"))) (x6 : PySem.W.findIn K (.ref C) "__getattr__" = some none) (x7 : PySem.W.findIn K (.ref C) "__class__" = some (some (.builtin "object.__class__"))) (x8 : PySem.W.mroIn K C (.type "object") = some true) (x9 : PySem.W.subIn K (.ref C) (.type "BaseException") = some true) : exCls K C = true := by
  have x : (PySem.W.clsIn K C).isSome = true := by
    unfold PySem.W.mroIn at x8
    cases e : PySem.W.clsIn K C with
    | some c => rfl
    | none => rw [e] at x8; cases x8
  unfold exCls
  rw [x1, x6, x7, x8, x9, x]; rfl
theorem exm_mk {K : PySem.W.Frag} {a b : Value} (x3 : PySem.W.subIn K b (.type "BaseException") = some true) (x10 : (a == b) = false) (x4 : PySem.W.kitOne K a b = some true) : PySem.W.exmOne K a b = some true := by
  unfold PySem.W.kitOne at x4
  rw [if_neg (by rw [x10]; exact Bool.false_ne_true)] at x4
  unfold PySem.W.exmOne
  rw [x3, if_pos (by rfl)]; exact x4
theorem all_mk {l : PySem.W.OpenLaw} {w : World} {K : PySem.W.Frag} {h : Heap} {mg : Str → Option Value} {fa f1 f2 f3 f4 f5 f6 f7 f8 f9 f10 f11 f12 f13 f14 f15 f16 f17 : Addr} {cS e0 e1 e2 e3 e4 e5 e6 cH e8 e9 e10 e11 e12 e13 e14 : Addr} {t8 : Tok} (X : K.In h) (G : h.Ns mainGlobals mg) (hfa : mg "law" = some (.ref fa))
    {od1 an1 od2 an2 od3 an3 od4 an4 od5 an5 od6 an6 od7 an7 od8 an8 od9 an9 od10 an10 od11 an11 od12 an12 od13 an13 od14 an14 od15 an15 od16 an16 od17 an17 : Option Addr} {sl1 sl2 sl3 sl4 sl5 sl6 sl7 sl8 sl9 sl10 sl11 sl12 sl13 sl14 sl15 sl16 sl17 : Array (Option Value)} {oc1 kV1 dc1 pm1 cd1 ct1 oc2 kV2 dc2 pm2 cd2 ct2 oc3 kV3 dc3 pm3 cd3 ct3 oc4 kV4 dc4 pm4 cd4 ct4 oc5 kV5 dc5 pm5 cd5 ct5 oc6 kV6 dc6 pm6 cd6 ct6 oc7 kV7 dc7 pm7 cd7 ct7 oc8 kV8 dc8 pm8 cd8 ct8 oc9 kV9 dc9 pm9 cd9 ct9 oc10 kV10 dc10 pm10 cd10 ct10 oc11 kV11 dc11 pm11 cd11 ct11 oc12 kV12 dc12 pm12 cd12 ct12 oc13 kV13 dc13 pm13 cd13 ct13 oc14 kV14 dc14 pm14 cd14 ct14 oc15 kV15 dc15 pm15 cd15 ct15 oc16 kV16 dc16 pm16 cd16 ct16 oc17 kV17 dc17 pm17 cd17 ct17 : Value}
    (a1 : PySem.W.nsIn K mainGlobals "is_name" = some (some (.ref f1))) (l1 : K.lookup f1 = some ⟨oc1, od1, .func (PySem.W.fnOf "is_name" "is_name" (defArgs sName) (defBody sName) (defScope sName) .none kV1 dc1 pm1 an1 cd1 ct1), sl1⟩) (c1 : PySem.W.codeIn K cd1 "is_name" = true) (k1 : PySem.W.keepIn K (.ref f1) = true)
    (a2 : PySem.W.nsIn K mainGlobals "house_names" = some (some (.ref f2))) (l2 : K.lookup f2 = some ⟨oc2, od2, .func (PySem.W.fnOf "house_names" "house_names" (defArgs sHouseNames) (defBody sHouseNames) (defScope sHouseNames) .none kV2 dc2 pm2 an2 cd2 ct2), sl2⟩) (c2 : PySem.W.codeIn K cd2 "house_names" = true) (k2 : PySem.W.keepIn K (.ref f2) = true)
    (a3 : PySem.W.nsIn K mainGlobals "has_house" = some (some (.ref f3))) (l3 : K.lookup f3 = some ⟨oc3, od3, .func (PySem.W.fnOf "has_house" "has_house" (defArgs sHasHouse) (defBody sHasHouse) (defScope sHasHouse) .none kV3 dc3 pm3 an3 cd3 ct3), sl3⟩) (c3 : PySem.W.codeIn K cd3 "has_house" = true) (k3 : PySem.W.keepIn K (.ref f3) = true)
    (a4 : PySem.W.nsIn K mainGlobals "mend" = some (some (.ref f4))) (l4 : K.lookup f4 = some ⟨oc4, od4, .func (PySem.W.fnOf "mend" "mend" (defArgs sMend) (defBody sMend) (defScope sMend) .none kV4 dc4 pm4 an4 cd4 ct4), sl4⟩) (c4 : PySem.W.codeIn K cd4 "mend" = true) (k4 : PySem.W.keepIn K (.ref f4) = true)
    (a5 : PySem.W.nsIn K mainGlobals "_law_mixed" = some (some (.ref f5))) (l5 : K.lookup f5 = some ⟨oc5, od5, .func (PySem.W.fnOf "_law_mixed" "_law_mixed" (defArgs sMixed) (defBody sMixed) (defScope sMixed) .none kV5 dc5 pm5 an5 cd5 ct5), sl5⟩) (c5 : PySem.W.codeIn K cd5 "_law_mixed" = true) (k5 : PySem.W.keepIn K (.ref f5) = true)
    (a6 : PySem.W.nsIn K mainGlobals "_law_pack" = some (some (.ref f6))) (l6 : K.lookup f6 = some ⟨oc6, od6, .func (PySem.W.fnOf "_law_pack" "_law_pack" (defArgs sPack) (defBody sPack) (defScope sPack) .none kV6 dc6 pm6 an6 cd6 ct6), sl6⟩) (c6 : PySem.W.codeIn K cd6 "_law_pack" = true) (k6 : PySem.W.keepIn K (.ref f6) = true)
    (a7 : PySem.W.nsIn K mainGlobals "_law_take" = some (some (.ref f7))) (l7 : K.lookup f7 = some ⟨oc7, od7, .func (PySem.W.fnOf "_law_take" "_law_take" (defArgs sTake) (defBody sTake) (defScope sTake) .none kV7 dc7 pm7 an7 cd7 ct7), sl7⟩) (c7 : PySem.W.codeIn K cd7 "_law_take" = true) (k7 : PySem.W.keepIn K (.ref f7) = true)
    (a8 : PySem.W.nsIn K mainGlobals "_law_names" = some (some (.ref f8))) (l8 : K.lookup f8 = some ⟨oc8, od8, .func (PySem.W.fnOf "_law_names" "_law_names" (defArgs sNames) (defBody sNames) (defScope sNames) .none kV8 dc8 pm8 an8 cd8 ct8), sl8⟩) (c8 : PySem.W.codeIn K cd8 "_law_names" = true) (k8 : PySem.W.keepIn K (.ref f8) = true)
    (a9 : PySem.W.nsIn K mainGlobals "_law_house" = some (some (.ref f9))) (l9 : K.lookup f9 = some ⟨oc9, od9, .func (PySem.W.fnOf "_law_house" "_law_house" (defArgs sMkHouse) (defBody sMkHouse) (defScope sMkHouse) .none kV9 dc9 pm9 an9 cd9 ct9), sl9⟩) (c9 : PySem.W.codeIn K cd9 "_law_house" = true) (k9 : PySem.W.keepIn K (.ref f9) = true)
    (a10 : PySem.W.nsIn K mainGlobals "_law_letters" = some (some (.ref f10))) (l10 : K.lookup f10 = some ⟨oc10, od10, .func (PySem.W.fnOf "_law_letters" "_law_letters" (defArgs sMkLetters) (defBody sMkLetters) (defScope sMkLetters) .none kV10 dc10 pm10 an10 cd10 ct10), sl10⟩) (c10 : PySem.W.codeIn K cd10 "_law_letters" = true) (k10 : PySem.W.keepIn K (.ref f10) = true)
    (a11 : PySem.W.nsIn K mainGlobals "_law_ledger" = some (some (.ref f11))) (l11 : K.lookup f11 = some ⟨oc11, od11, .func (PySem.W.fnOf "_law_ledger" "_law_ledger" (defArgs sMkLedger) (defBody sMkLedger) (defScope sMkLedger) .none kV11 dc11 pm11 an11 cd11 ct11), sl11⟩) (c11 : PySem.W.codeIn K cd11 "_law_ledger" = true) (k11 : PySem.W.keepIn K (.ref f11) = true)
    (a12 : PySem.W.nsIn K mainGlobals "_law_bent" = some (some (.ref f12))) (l12 : K.lookup f12 = some ⟨oc12, od12, .func (PySem.W.fnOf "_law_bent" "_law_bent" (defArgs sBent) (defBody sBent) (defScope sBent) .none kV12 dc12 pm12 an12 cd12 ct12), sl12⟩) (c12 : PySem.W.codeIn K cd12 "_law_bent" = true) (k12 : PySem.W.keepIn K (.ref f12) = true)
    (a13 : PySem.W.nsIn K mainGlobals "_law_rows" = some (some (.ref f13))) (l13 : K.lookup f13 = some ⟨oc13, od13, .func (PySem.W.fnOf "_law_rows" "_law_rows" (defArgs sRows) (defBody sRows) (defScope sRows) .none kV13 dc13 pm13 an13 cd13 ct13), sl13⟩) (c13 : PySem.W.codeIn K cd13 "_law_rows" = true) (k13 : PySem.W.keepIn K (.ref f13) = true)
    (a14 : PySem.W.nsIn K mainGlobals "_law_drawn" = some (some (.ref f14))) (l14 : K.lookup f14 = some ⟨oc14, od14, .func (PySem.W.fnOf "_law_drawn" "_law_drawn" (defArgs sDrawn) (defBody sDrawn) (defScope sDrawn) .none kV14 dc14 pm14 an14 cd14 ct14), sl14⟩) (c14 : PySem.W.codeIn K cd14 "_law_drawn" = true) (k14 : PySem.W.keepIn K (.ref f14) = true)
    (a15 : PySem.W.nsIn K mainGlobals "_law_only" = some (some (.ref f15))) (l15 : K.lookup f15 = some ⟨oc15, od15, .func (PySem.W.fnOf "_law_only" "_law_only" (defArgs sOnly) (defBody sOnly) (defScope sOnly) .none kV15 dc15 pm15 an15 cd15 ct15), sl15⟩) (c15 : PySem.W.codeIn K cd15 "_law_only" = true) (k15 : PySem.W.keepIn K (.ref f15) = true)
    (a16 : PySem.W.nsIn K mainGlobals "_law_refused" = some (some (.ref f16))) (l16 : K.lookup f16 = some ⟨oc16, od16, .func (PySem.W.fnOf "_law_refused" "_law_refused" (defArgs sRefused) (defBody sRefused) (defScope sRefused) .none kV16 dc16 pm16 an16 cd16 ct16), sl16⟩) (c16 : PySem.W.codeIn K cd16 "_law_refused" = true) (k16 : PySem.W.keepIn K (.ref f16) = true)
    (a17 : PySem.W.nsIn K mainGlobals "law" = some (some (.ref f17))) (l17 : K.lookup f17 = some ⟨oc17, od17, .func (PySem.W.fnOf "law" "law" (defArgs sLaw) (defBody sLaw) (defScope sLaw) .none kV17 dc17 pm17 an17 cd17 ct17), sl17⟩) (c17 : PySem.W.codeIn K cd17 "law" = true) (k17 : PySem.W.keepIn K (.ref f17) = true)
    (y1 : PySem.W.nsIn K mainGlobals "LONGEST_NAME" = some (some (.int 8 t8))) (z1 : PySem.W.nsIn K mainGlobals "isinstance" = some none) (z2 : PySem.W.nsIn K mainGlobals "int" = some none) (z3 : PySem.W.nsIn K mainGlobals "bool" = some none) (z4 : PySem.W.nsIn K mainGlobals "str" = some none) (z5 : PySem.W.nsIn K mainGlobals "tuple" = some none) (z6 : PySem.W.nsIn K mainGlobals "len" = some none) (z7 : PySem.W.nsIn K mainGlobals "all" = some none) (z8 : PySem.W.nsIn K mainGlobals "zip" = some none) (z9 : PySem.W.nsIn K mainGlobals "set" = some none) (z10 : PySem.W.nsIn K mainGlobals "sorted" = some none) (z11 : PySem.W.nsIn K mainGlobals "divmod" = some none) (z12 : PySem.W.nsIn K mainGlobals "range" = some none) (z13 : PySem.W.nsIn K mainGlobals "max" = some none) (z14 : PySem.W.nsIn K mainGlobals "min" = some none) (z15 : PySem.W.nsIn K mainGlobals "abs" = some none) (z16 : PySem.W.nsIn K mainGlobals "list" = some none) (z17 : PySem.W.nsIn K mainGlobals "ValueError" = some none)
    (pS : PySem.W.nsIn K mainGlobals "SkewError" = some (some (.ref cS))) (p0 : PySem.W.nsIn K mainGlobals "NoBound" = some (some (.ref e0))) (p1 : PySem.W.nsIn K mainGlobals "NoPlacing" = some (some (.ref e1))) (p2 : PySem.W.nsIn K mainGlobals "NoRow" = some (some (.ref e2))) (p3 : PySem.W.nsIn K mainGlobals "NoWord" = some (some (.ref e3))) (p4 : PySem.W.nsIn K mainGlobals "TooMany" = some (some (.ref e4))) (p5 : PySem.W.nsIn K mainGlobals "NoNumber" = some (some (.ref e5))) (p6 : PySem.W.nsIn K mainGlobals "NoOrder" = some (some (.ref e6))) (p7 : PySem.W.nsIn K mainGlobals "NoHouse" = some (some (.ref cH))) (p8 : PySem.W.nsIn K mainGlobals "NoRun" = some (some (.ref e8))) (p9 : PySem.W.nsIn K mainGlobals "NoReading" = some (some (.ref e9))) (p10 : PySem.W.nsIn K mainGlobals "NoLetter" = some (some (.ref e10))) (p11 : PySem.W.nsIn K mainGlobals "NoMerge" = some (some (.ref e11))) (p12 : PySem.W.nsIn K mainGlobals "NoText" = some (some (.ref e12))) (p13 : PySem.W.nsIn K mainGlobals "NoCall" = some (some (.ref e13))) (p14 : PySem.W.nsIn K mainGlobals "NoKept" = some (some (.ref e14)))
    (x1 : PySem.W.findIn K (.ref cH) "__getattribute__" = some (some (.builtin "BaseException.__getattribute__"))) (x6 : PySem.W.findIn K (.ref cH) "__getattr__" = some none) (x7 : PySem.W.findIn K (.ref cH) "__class__" = some (some (.builtin "object.__class__"))) (x8 : PySem.W.mroIn K cH (.type "object") = some true) (x9 : PySem.W.subIn K (.ref cH) (.type "BaseException") = some true) (x2 : PySem.W.excIn K cH [.type "ValueError", .type "Exception", .type "BaseException", .type "object"] "ValueError.__new__" = true) (x3 : PySem.W.subIn K (.ref cS) (.type "BaseException") = some true) (x10 : (Value.ref cH == Value.ref cS) = false) (x4 : PySem.W.kitOne K (.ref cH) (.ref cS) = some true) (x5 : PySem.W.kitOne K (.ref cH) (.type "ValueError") = some true) (q0 : PySem.W.kitOne K (.ref cH) (.ref e0) = some false) (q1 : PySem.W.kitOne K (.ref cH) (.ref e1) = some false) (q2 : PySem.W.kitOne K (.ref cH) (.ref e2) = some false) (q3 : PySem.W.kitOne K (.ref cH) (.ref e3) = some false) (q4 : PySem.W.kitOne K (.ref cH) (.ref e4) = some false) (q5 : PySem.W.kitOne K (.ref cH) (.ref e5) = some false) (q6 : PySem.W.kitOne K (.ref cH) (.ref e6) = some false) (q8 : PySem.W.kitOne K (.ref cH) (.ref e8) = some false) (q9 : PySem.W.kitOne K (.ref cH) (.ref e9) = some false) (q10 : PySem.W.kitOne K (.ref cH) (.ref e10) = some false) (q11 : PySem.W.kitOne K (.ref cH) (.ref e11) = some false) (q12 : PySem.W.kitOne K (.ref cH) (.ref e12) = some false) (q13 : PySem.W.kitOne K (.ref cH) (.ref e13) = some false) (q14 : PySem.W.kitOne K (.ref cH) (.ref e14) = some false) :
    ∃ fd : FuncData, (∀ (s : Shared) (v : Value), BindsTo s fd ⟨[v], []⟩ [("_law_script", v)]) ∧ ∀ base : Heap, K.In base → base.Ns mainGlobals mg → FnOk l.prog w K mg base CX0 5 fa fd ["_law_script"] (spLaw K) := by
  have e := hfa.symm.trans (PySem.W.mg_of X G a17)
  cases e
  have T : Txt mg t8 := ⟨PySem.W.mg_none_of X G z1, PySem.W.mg_none_of X G z2, PySem.W.mg_none_of X G z3, PySem.W.mg_none_of X G z4, PySem.W.mg_none_of X G z5, PySem.W.mg_none_of X G z6, PySem.W.mg_none_of X G z7, PySem.W.mg_none_of X G z8, PySem.W.mg_none_of X G z9, PySem.W.mg_none_of X G z10, PySem.W.mg_none_of X G z11, PySem.W.mg_none_of X G z12, PySem.W.mg_none_of X G z13, PySem.W.mg_none_of X G z14, PySem.W.mg_none_of X G z15, PySem.W.mg_none_of X G z16, PySem.W.mg_none_of X G z17, PySem.W.mg_of X G y1⟩
  have C : Cls K mg cS cH := ⟨exCls_mk x1 x6 x7 x8 x9, x2, PySem.W.mg_of X G pS, PySem.W.mg_of X G p7, exm_mk x3 x10 x4, x4, x5, ⟨_, PySem.W.mg_of X G p0, q0⟩, ⟨_, PySem.W.mg_of X G p1, q1⟩, ⟨_, PySem.W.mg_of X G p2, q2⟩, ⟨_, PySem.W.mg_of X G p3, q3⟩, ⟨_, PySem.W.mg_of X G p4, q4⟩, ⟨_, PySem.W.mg_of X G p5, q5⟩, ⟨_, PySem.W.mg_of X G p6, q6⟩, ⟨_, PySem.W.mg_of X G p8, q8⟩, ⟨_, PySem.W.mg_of X G p9, q9⟩, ⟨_, PySem.W.mg_of X G p10, q10⟩, ⟨_, PySem.W.mg_of X G p11, q11⟩, ⟨_, PySem.W.mg_of X G p12, q12⟩, ⟨_, PySem.W.mg_of X G p13, q13⟩, ⟨_, PySem.W.mg_of X G p14, q14⟩⟩
  have F1 := fun_mk (st := sName) l1 c1 k1
  have b1 := F1.binds (ps := ["thing"]) fun _ _ _ _ _ _ us hl => match us, hl with | [_], _ => rfl
  have F2 := fun_mk (st := sHouseNames) l2 c2 k2
  have b2 := F2.binds (ps := ["ledger"]) fun _ _ _ _ _ _ us hl => match us, hl with | [_], _ => rfl
  have F3 := fun_mk (st := sHasHouse) l3 c3 k3
  have b3 := F3.binds (ps := ["ledger", "thing"]) fun _ _ _ _ _ _ us hl => match us, hl with | [_, _], _ => rfl
  have F4 := fun_mk (st := sMend) l4 c4 k4
  have b4 := F4.binds (ps := ["ledger", "house"]) fun _ _ _ _ _ _ us hl => match us, hl with | [_, _], _ => rfl
  have F5 := fun_mk (st := sMixed) l5 c5 k5
  have b5 := F5.binds (ps := ["_law_cell"]) fun _ _ _ _ _ _ us hl => match us, hl with | [_], _ => rfl
  have F6 := fun_mk (st := sPack) l6 c6 k6
  have b6 := F6.binds (ps := ["_law_script", "_law_k"]) fun _ _ _ _ _ _ us hl => match us, hl with | [_, _], _ => rfl
  have F7 := fun_mk (st := sTake) l7 c7 k7
  have b7 := F7.binds (ps := ["_law_pack_here", "_law_size"]) fun _ _ _ _ _ _ us hl => match us, hl with | [_, _], _ => rfl
  have F8 := fun_mk (st := sNames) l8 c8 k8
  have b8 := F8.binds (ps := ["_law_pack_here", "_law_amount"]) fun _ _ _ _ _ _ us hl => match us, hl with | [_, _], _ => rfl
  have F9 := fun_mk (st := sMkHouse) l9 c9 k9
  have b9 := F9.binds (ps := ["_law_pack_here", "_law_name", "_law_names_here", "_law_room"]) fun _ _ _ _ _ _ us hl => match us, hl with | [_, _, _, _], _ => rfl
  have F10 := fun_mk (st := sMkLetters) l10 c10 k10
  have b10 := F10.binds (ps := ["_law_pack_here", "_law_houses", "_law_hidden"]) fun _ _ _ _ _ _ us hl => match us, hl with | [_, _, _], _ => rfl
  have F11 := fun_mk (st := sMkLedger) l11 c11 k11
  have b11 := F11.binds (ps := ["_law_script", "_law_k"]) fun _ _ _ _ _ _ us hl => match us, hl with | [_, _], _ => rfl
  have F12 := fun_mk (st := sBent) l12 c12 k12
  have b12 := F12.binds (ps := ["_law_pack_here", "_law_ledger_here"]) fun _ _ _ _ _ _ us hl => match us, hl with | [_, _], _ => rfl
  have F13 := fun_mk (st := sRows) l13 c13 k13
  have b13 := F13.binds (ps := ["_law_ledger_here"]) fun _ _ _ _ _ _ us hl => match us, hl with | [_], _ => rfl
  have F14 := fun_mk (st := sDrawn) l14 c14 k14
  have b14 := F14.binds (ps := ["_law_script"]) fun _ _ _ _ _ _ us hl => match us, hl with | [_], _ => rfl
  have F15 := fun_mk (st := sOnly) l15 c15 k15
  have b15 := F15.binds (ps := ["_law_e", "_law_at"]) fun _ _ _ _ _ _ us hl => match us, hl with | [_, _], _ => rfl
  have F16 := fun_mk (st := sRefused) l16 c16 k16
  have b16 := F16.binds (ps := ["_law_ledger_here", "_law_thing"]) fun _ _ _ _ _ _ us hl => match us, hl with | [_, _], _ => rfl
  have F17 := fun_mk (st := sLaw) l17 c17 k17
  have b17 := F17.binds (ps := ["_law_script"]) fun _ _ _ _ _ _ us hl => match us, hl with | [_], _ => rfl
  refine ⟨PySem.W.fnOf "law" "law" (defArgs sLaw) (defBody sLaw) (defScope sLaw) .none kV17 dc17 pm17 an17 cd17 ct17, fun s v => .of_eq rfl, fun base _ _ => ?_⟩
  have G1 : FnOk l.prog w K mg base CX0 1 f1 _ ["thing"] (spName K) := ok_name F1 T
  have G2 : FnOk l.prog w K mg base CX0 1 f2 _ ["ledger"] spHouseNames := ok_housenames F2 T
  have G3 : FnOk l.prog w K mg base CX0 2 f3 _ ["ledger", "thing"] spHas := ok_hashouse F3 T G1 (PySem.W.mg_of X G a1) k1 b1 G2 (PySem.W.mg_of X G a2) k2 b2
  have G4 : FnOk l.prog w K mg base (CX1 l.prog w) 3 f4 _ ["ledger", "house"] (spMend cH) := ok_mend F4 T C.mH C.xi G3 (PySem.W.mg_of X G a3) k3 b3
  have G5 : FnOk l.prog w K mg base CX0 1 f5 _ ["_law_cell"] spMixed := ok_mixed F5
  have G6 : FnOk l.prog w K mg base CX0 2 f6 _ ["_law_script", "_law_k"] (spPack K) := ok_pack F6 T G5 (PySem.W.mg_of X G a5) k5 b5
  have G7 : FnOk l.prog w K mg base CX0 1 f7 _ ["_law_pack_here", "_law_size"] spTake := ok_take F7 T
  have G8 : FnOk l.prog w K mg base CX0 2 f8 _ ["_law_pack_here", "_law_amount"] spNames := ok_names F8 T G7 (PySem.W.mg_of X G a7) k7 b7
  have G9 : FnOk l.prog w K mg base CX0 2 f9 _ ["_law_pack_here", "_law_name", "_law_names_here", "_law_room"] spMkHouse := ok_mkhouse F9 T G7 (PySem.W.mg_of X G a7) k7 b7
  have G10 : FnOk l.prog w K mg base CX0 2 f10 _ ["_law_pack_here", "_law_houses", "_law_hidden"] spMkLetters := ok_mkletters F10 T G7 (PySem.W.mg_of X G a7) k7 b7
  have G11 : FnOk l.prog w K mg base CX0 3 f11 _ ["_law_script", "_law_k"] (spMkLedger K) := ok_mkledger F11 T G6 (PySem.W.mg_of X G a6) k6 b6 G8 (PySem.W.mg_of X G a8) k8 b8 (G7.mono (by decide)) (PySem.W.mg_of X G a7) k7 b7 G9 (PySem.W.mg_of X G a9) k9 b9 G10 (PySem.W.mg_of X G a10) k10 b10
  have G12 : FnOk l.prog w K mg base CX0 2 f12 _ ["_law_pack_here", "_law_ledger_here"] spBent := ok_bent F12 T G7 (PySem.W.mg_of X G a7) k7 b7
  have G13 : FnOk l.prog w K mg base CX0 1 f13 _ ["_law_ledger_here"] spRows := ok_rows F13 T
  have G14 : FnOk l.prog w K mg base CX0 4 f14 _ ["_law_script"] (spDrawn K) := ok_drawn F14 T G11 (PySem.W.mg_of X G a11) k11 b11 (G6.mono (by decide)) (PySem.W.mg_of X G a6) k6 b6 (G7.mono (by decide)) (PySem.W.mg_of X G a7) k7 b7 (G12.mono (by decide)) (PySem.W.mg_of X G a12) k12 b12
  have G15 : FnOk l.prog w K mg base CX0 1 f15 _ ["_law_e", "_law_at"] (spOnly cH) := ok_only F15 T C
  have G16 : FnOk l.prog w K mg base CX0 4 f16 _ ["_law_ledger_here", "_law_thing"] spRefused := ok_refused F16 T C G4 (PySem.W.mg_of X G a4) k4 b4 (G15.mono (by decide)) (PySem.W.mg_of X G a15) k15 b15
  exact ok_law F17 T G14 (PySem.W.mg_of X G a14) k14 b14 (G6.mono (by decide)) (PySem.W.mg_of X G a6) k6 b6 (G7.mono (by decide)) (PySem.W.mg_of X G a7) k7 b7 (G13.mono (by decide)) (PySem.W.mg_of X G a13) k13 b13 G16 (PySem.W.mg_of X G a16) k16 b16
theorem walk {l : PySem.W.OpenLaw} {q : Program} {loose : List Str} {XP : (Str → Option Value) → Heap → Prop} {YP : World → Heap → Prop} {d : DefRec} {K : Params → PySem.W.Frag} (hn : l.most = some 63) (hdf : d.params.defaults = [])
    (hY : ∀ (w : World) (h : Heap), YP w h → (K w.params).In h)
    (F : ∀ (w : World) (mg : Str → Option Value) (fa : Addr) (h : Heap), (K w.params).In h → h.Ns mainGlobals mg → mg d.name = some (.ref fa) →
      ∃ fd : FuncData, (∀ (s : Shared) (u : Value), BindsTo s fd ⟨[u], []⟩ [("_law_script", u)]) ∧ ∀ base : Heap, (K w.params).In base → base.Ns mainGlobals mg → FnOk l.prog w (K w.params) mg base CX0 5 fa fd ["_law_script"] (spLaw (K w.params))) :
    PySem.W.WalkO q loose XP YP l.row.toRowW d [] (fun f vs => PySem.call f vs) :=
  walk_bits (n := 63) (k := 5) (x := "_law_script") (CX := fun _ => CX0) (sp := fun w => spLaw (K w.params)) hn (by decide) hdf ⟨rfl, by decide, by decide⟩ hY F (fun _ _ a ns hl hb _ hS => ⟨a, ns, rfl, hS, hl, hb, fun _ => rfl⟩) fun _ _ _ _ _ z => z
end K49
open PySem PySem.W PyProof.Rows
set_option maxRecDepth 100000 in
set_option maxHeartbeats 0 in
theorem PySem.Challenge.cw_skewbooks_k49_no_houses_to_mend_holds : PySem.Challenge.rw_skewbooks_k49_no_houses_to_mend.Holds := by
  w_on; o_law; k_head; (case hw => w_witness2)
  k_fill
  refine K49.walk (l := PySem.Challenge.rw_skewbooks_k49_no_houses_to_mend) rfl rfl (fun w h Y => PySem.W.kIn_of Y) ?F
  case F =>
    intro w mg fa h KX G hmg
    refine' K49.all_mk KX G hmg ?a1 ?l1 ?c1 ?k1 ?a2 ?l2 ?c2 ?k2 ?a3 ?l3 ?c3 ?k3 ?a4 ?l4 ?c4 ?k4 ?a5 ?l5 ?c5 ?k5 ?a6 ?l6 ?c6 ?k6 ?a7 ?l7 ?c7 ?k7 ?a8 ?l8 ?c8 ?k8 ?a9 ?l9 ?c9 ?k9 ?a10 ?l10 ?c10 ?k10 ?a11 ?l11 ?c11 ?k11 ?a12 ?l12 ?c12 ?k12 ?a13 ?l13 ?c13 ?k13 ?a14 ?l14 ?c14 ?k14 ?a15 ?l15 ?c15 ?k15 ?a16 ?l16 ?c16 ?k16 ?a17 ?l17 ?c17 ?k17 ?y1 ?z1 ?z2 ?z3 ?z4 ?z5 ?z6 ?z7 ?z8 ?z9 ?z10 ?z11 ?z12 ?z13 ?z14 ?z15 ?z16 ?z17 ?pS ?p0 ?p1 ?p2 ?p3 ?p4 ?p5 ?p6 ?p7 ?p8 ?p9 ?p10 ?p11 ?p12 ?p13 ?p14 ?x1 ?x6 ?x7 ?x8 ?x9 ?x2 ?x3 ?x10 ?x4 ?x5 ?q0 ?q1 ?q2 ?q3 ?q4 ?q5 ?q6 ?q8 ?q9 ?q10 ?q11 ?q12 ?q13 ?q14
    (case a1 => k_is)
    (case l1 => k_is)
    (case c1 => k_is)
    (case k1 => k_is)
    (case a2 => k_is)
    (case l2 => k_is)
    (case c2 => k_is)
    (case k2 => k_is)
    (case a3 => k_is)
    (case l3 => k_is)
    (case c3 => k_is)
    (case k3 => k_is)
    (case a4 => k_is)
    (case l4 => k_is)
    (case c4 => k_is)
    (case k4 => k_is)
    (case a5 => k_is)
    (case l5 => k_is)
    (case c5 => k_is)
    (case k5 => k_is)
    (case a6 => k_is)
    (case l6 => k_is)
    (case c6 => k_is)
    (case k6 => k_is)
    (case a7 => k_is)
    (case l7 => k_is)
    (case c7 => k_is)
    (case k7 => k_is)
    (case a8 => k_is)
    (case l8 => k_is)
    (case c8 => k_is)
    (case k8 => k_is)
    (case a9 => k_is)
    (case l9 => k_is)
    (case c9 => k_is)
    (case k9 => k_is)
    (case a10 => k_is)
    (case l10 => k_is)
    (case c10 => k_is)
    (case k10 => k_is)
    (case a11 => k_is)
    (case l11 => k_is)
    (case c11 => k_is)
    (case k11 => k_is)
    (case a12 => k_is)
    (case l12 => k_is)
    (case c12 => k_is)
    (case k12 => k_is)
    (case a13 => k_is)
    (case l13 => k_is)
    (case c13 => k_is)
    (case k13 => k_is)
    (case a14 => k_is)
    (case l14 => k_is)
    (case c14 => k_is)
    (case k14 => k_is)
    (case a15 => k_is)
    (case l15 => k_is)
    (case c15 => k_is)
    (case k15 => k_is)
    (case a16 => k_is)
    (case l16 => k_is)
    (case c16 => k_is)
    (case k16 => k_is)
    (case a17 => k_is)
    (case l17 => k_is)
    (case c17 => k_is)
    (case k17 => k_is)
    (case y1 => k_is)
    (case z1 => k_is)
    (case z2 => k_is)
    (case z3 => k_is)
    (case z4 => k_is)
    (case z5 => k_is)
    (case z6 => k_is)
    (case z7 => k_is)
    (case z8 => k_is)
    (case z9 => k_is)
    (case z10 => k_is)
    (case z11 => k_is)
    (case z12 => k_is)
    (case z13 => k_is)
    (case z14 => k_is)
    (case z15 => k_is)
    (case z16 => k_is)
    (case z17 => k_is)
    (case pS => k_is)
    (case p0 => k_is)
    (case p1 => k_is)
    (case p2 => k_is)
    (case p3 => k_is)
    (case p4 => k_is)
    (case p5 => k_is)
    (case p6 => k_is)
    (case p7 => k_is)
    (case p8 => k_is)
    (case p9 => k_is)
    (case p10 => k_is)
    (case p11 => k_is)
    (case p12 => k_is)
    (case p13 => k_is)
    (case p14 => k_is)
    (case x1 => k_is)
    (case x6 => k_is)
    (case x7 => k_is)
    (case x8 => k_is)
    (case x9 => k_is)
    (case x2 => k_exc)
    (case x3 => k_is)
    (case x10 => rfl)
    (case x4 => kit_is)
    (case x5 => kit_is)
    (case q0 => kit_is)
    (case q1 => kit_is)
    (case q2 => kit_is)
    (case q3 => kit_is)
    (case q4 => kit_is)
    (case q5 => kit_is)
    (case q6 => kit_is)
    (case q8 => kit_is)
    (case q9 => kit_is)
    (case q10 => kit_is)
    (case q11 => kit_is)
    (case q12 => kit_is)
    (case q13 => kit_is)
    (case q14 => kit_is)
